"""How many terms of each size a relation of a shallow program has, and why a term is of one."""

from proofsizes.errors import TooLarge
from proofsizes.grounding import Grounding
from proofsizes.shallow import check_ground, check_shallow, rounds_for
from proofsizes.terms import is_integer

MOST_SIZE = 20
MOST_FACTS = 2000
MOST_RULES = 5000


def count_terms(program, name, most):
    """The tuple with how many terms of each number of signs, from 0 to most, are of a relation."""
    if not is_integer(most) or not 0 <= most <= MOST_SIZE:
        raise TooLarge(most)
    found = rounds_for(program)[-1]
    counts = counts_by_sizes(found, most)
    bit = found.mask_of([name])
    return tuple([sum([row.get(mask, 0) for mask in row if mask & bit]) for row in counts])


def counts_by_sizes(found, most):
    """For each number of signs a dict from types, as bits, to how many terms have them."""
    counts = [{}]
    for size in range(1, most + 1):
        row = {}
        if size == 1:
            for mask in list(found.constants.values()):
                row[mask] = row.get(mask, 0) + 1
        for key in found.compounds:
            made = compounds_of_size(found, key, counts, size)
            for lets in made:
                mask = found.made_by(key, lets)
                row[mask] = row.get(mask, 0) + made[lets]
        counts.append(row)
    return counts


def compounds_of_size(found, key, counts, size):
    """A dict from bits for the ways that all parts let to how many compounds of a size have them."""
    rows = {((1 << len(found.compounds[key])) - 1, size - 1): 1}
    for part in range(key[1]):
        lets = lets_of_sizes(found, key, part, counts)
        longer = {}
        for (one, rest), ways in rows.items():
            # Each part behind this one has a sign at least.
            for (other, many), more in lets.items():
                if many <= rest - (key[1] - part - 1):
                    place = (one & other, rest - many)
                    longer[place] = longer.get(place, 0) + ways * more
        rows = longer
    return {one: rows[one, rest] for one, rest in rows if rest == 0}


def lets_of_sizes(found, key, part, counts):
    """A dict from bits for the ways that a part lets, with its signs, to how many terms do."""
    lets = {}
    for many, row in enumerate(counts):
        for mask in row:
            place = (found.lets_at(key, part, mask), many)
            lets[place] = lets.get(place, 0) + row[mask]
    return lets


def proof_of(program, name, term):
    """A proof that a ground term is of a relation, a tree; None if it isn't."""
    check_shallow(program)
    check_ground(term)
    grounding = Grounding(program, rounds_for(program))
    number = grounding.number_of(term)
    many = grounding.count_facts()
    if many > MOST_FACTS:
        raise TooLarge(many)
    grounding.find_least()
    size = grounding.size_of(name, number)
    if size is None:
        return None
    if size > MOST_RULES:
        raise TooLarge(size)
    return grounding.tree_of(name, number)
