"""Ground rows of a closed signature that come of some terms, and of none of some patterns."""

from proofsizes.bindings import bound_by
from proofsizes.filling import Cases, Filling
from proofsizes.nodes import are_headed_alike, made_node, names_in, numbered, put_in, put_in_pairs, unknown_node


class Lot:
    """Rows that come of some terms, by the compounds that each unknown may be, and inequations.

    Patterns are those that these rows may come of, as far as the inequations don't tell it.
    """

    def __init__(self, terms, heads, inequations, patterns):
        self.terms = terms
        self.heads = heads
        self.inequations = inequations
        self.patterns = patterns


class Unmatched:
    """A search for a row that comes of none of some patterns."""

    def __init__(self, constants, compounds):
        self.filling = Filling(constants, compounds, Cases())
        self.fresh = 0

    def unlike_names(self, many):
        """The tuple of so many unknowns that were never used."""
        self.fresh += many
        return tuple([unknown_node(self.fresh - many + at) for at in range(many)])

    def heads_for(self, terms):
        """The dict from the unknowns in terms to all compounds, as each of them may be any."""
        return {name: tuple(self.filling.compounds) for name in names_in(terms)}

    def row_for(self, terms, patterns):
        """Such a row of nodes; None if there is none."""
        shelf = self.filling.shelf
        nodes = shelf.nodes_of(terms)
        names = names_in(nodes)
        inner = put_in(nodes, numbered(names, 0))
        self.fresh = len(names)
        waiting = [Lot(inner, self.heads_for(inner), [], [shelf.nodes_of(pattern) for pattern in patterns])]
        while waiting:
            self.filling.cases.pass_one()
            lot, split = self.told_apart(waiting.pop())
            if lot is None:
                continue
            if split is not None:
                waiting.extend(self.parted(lot, split))
                continue
            worth = self.filling.fill({name: lot.heads[name] for name in names_in(lot.terms)}, lot.inequations)
            if worth is not None:
                return put_in(lot.terms, worth)
        return None

    def parted(self, lot, split):
        """The two lots in which an unknown is a compound with a certain name, or isn't."""
        name, head = split
        less = {**lot.heads, name: tuple([other for other in lot.heads[name] if other != head])}
        without = Lot(lot.terms, less, lot.inequations, lot.patterns)
        parts = self.unlike_names(self.filling.compounds[head])
        worth = {name: made_node(head, parts)}
        more = {**lot.heads, **self.heads_for(parts)}
        inequations = [put_in_pairs(pairs, worth) for pairs in lot.inequations]
        return [without, Lot(put_in(lot.terms, worth), more, inequations, lot.patterns)]

    def told_apart(self, lot):
        """A lot with inequations for the patterns of which they can tell, and what is to be split for the others.

        None for a lot all rows of which are met.
        """
        inequations = list(lot.inequations)
        patterns = []
        split = None
        for pattern in lot.patterns:
            pairs, unclear = pairs_to_meet(pattern, lot)
            if unclear is not None:
                patterns.append(pattern)
                split = unclear if split is None else split
            elif pairs is not None:
                inequations.append(pairs)
        rows = self.filling.solved_rows(inequations, {})
        if rows is None:
            return None, None
        return Lot(lot.terms, lot.heads, rows, patterns), split


def pairs_to_meet(pattern, lot):
    """The pairs that are the same for just the rows that come of a pattern, None without such rows.

    And the unknown and the compound's name, of which it hangs, if no pairs tell that.
    """
    found = {}
    met = {}
    pairs = []
    later = []
    waiting = list(zip(pattern, lot.terms))
    while waiting:
        one, other = waiting.pop()
        if one.inner is None:
            pairs.append((found.setdefault(one.name, other), other))
        elif one.inner and other.inner is None:
            if one.name not in lot.heads[other.name]:
                return None, None
            later.append((one, other))
        elif not one.inner:
            pairs.append((one, other))
        elif not are_headed_alike(one, other):
            return None, None
        elif (one, other) not in met:
            met[one, other] = True
            waiting.extend(list(zip(one.inner, other.inner)))
    for one, other in later:
        if any([name not in found for name in names_in([one])]):
            return None, (other.name, one.name)
        pairs.append((put_in([one], found)[0], other))
    return (pairs, None) if bound_by(pairs) is not None else (None, None)
