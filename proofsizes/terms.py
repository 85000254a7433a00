"""Terms: what is one, what stands in it, its place in the order, terms put in for unknowns."""

from proofsizes.sharing import FEW_STEPS, hide_truth_value, unlike_parts

LETTERS = "abcdefghijklmnopqrstuvwxyz"
FIGURES = "0123456789"
MOST_SIGNS = 8
MOST_WITHIN = 20
# Python itself writes no integer that has a few thousand figures, so long ones are written piece by piece.
PIECE_FIGURES = 64
PIECE = 10 ** 64


def is_integer(thing):
    """Whether a thing is an integer; True and False are none."""
    return isinstance(thing, int) and not isinstance(thing, bool)


def is_number_below(thing, many):
    """Whether a thing is the number of one of so many."""
    return is_integer(thing) and 0 <= thing < many


def is_name(thing):
    """Whether a thing is a name."""
    if not isinstance(thing, str) or not 1 <= len(thing) <= MOST_SIGNS:
        return False
    return thing[0] in LETTERS and all([sign in LETTERS or sign in FIGURES for sign in thing])


def is_constant(thing):
    """Whether a thing is a constant."""
    return is_name(thing) or is_integer(thing)


def is_unknown_name(thing):
    """Whether an unknown can be called so."""
    return is_name(thing) or is_integer(thing) and thing >= 0


def is_row(thing):
    """Whether a thing is a list or a tuple."""
    return isinstance(thing, (list, tuple))


def is_unknown(term):
    """Whether a term is an unknown."""
    return isinstance(term, tuple) and term[0] == "?"


def is_compound(term):
    """Whether a term has parts."""
    return isinstance(term, tuple) and term[0] != "?"


def are_terms(things, most):
    """Whether all of some things are terms with at most so many within one another, None for any number."""
    large = []
    for thing in things:
        found = is_small_term(thing, most)
        if found is None:
            large.append(thing)
        elif not found:
            return False
    if not large:
        return True
    parts, numbers = unlike_parts(large, FEW_STEPS)
    return are_terms_by_parts(large, most, parts, numbers)


def is_small_term(thing, most):
    """Whether a thing is such a term; None if more of it than few parts would have to be gone through for that."""
    waiting = [(thing, 1)]
    made = 0
    while waiting:
        made += 1
        if made > FEW_STEPS:
            return None
        part, level = waiting.pop()
        if most is not None and level > most:
            return False
        if not isinstance(part, tuple):
            if not is_constant(part):
                return False
        elif is_compound_shape(part):
            waiting.extend([(inner, level + 1) for inner in part[1]])
        elif len(part) != 2 or part[0] != "?" or not is_unknown_name(part[1]):
            return False
    return True


def are_terms_by_parts(things, most, parts, numbers):
    """Whether all of some things are such terms, by their unlike parts, and their numbers among these."""
    if hide_truth_value(things, parts, numbers):
        return False
    levels = []
    for inner, leaf in parts:
        levels.append(levels_of_part(parts, levels, inner, leaf))
    found = [levels[number] for number in numbers]
    return None not in found and (most is None or max(found) <= most)


def levels_of_part(parts, levels, inner, leaf):
    """How many terms stand within one another in a part, by what is told of those ahead; None for what is no term."""
    if inner is None:
        return 1 if is_constant(leaf) else None
    if len(inner) != 2:
        return None
    name = parts[inner[0]][1]
    row, called = parts[inner[1]]
    if name == "?":
        return 1 if row is None and is_unknown_name(called) else None
    if not row or not is_name(name):
        return None
    within = [levels[part] for part in row]
    return None if None in within else 1 + max(within)


def is_compound_shape(part):
    """Whether a tuple is a compound, if its parts are terms."""
    if len(part) != 2 or not is_name(part[0]):
        return False
    return isinstance(part[1], tuple) and len(part[1]) > 0


def is_term(thing):
    """Whether a thing is a term as one may be handed in."""
    return are_terms([thing], MOST_WITHIN)


def is_deep_term(thing):
    """Whether a thing is a term as one may come of the work."""
    return are_terms([thing], None)


def is_ground_term(thing):
    """Whether a thing is a term, however deep, in which no unknown stands."""
    return is_deep_term(thing) and not has_unknown(thing)


def has_unknown(term):
    """Whether an unknown stands in a term."""
    return len(names_in([term])) > 0


def is_row_of_terms(thing):
    """Whether a thing is a row of terms that may be handed in."""
    return is_row(thing) and are_terms(thing, MOST_WITHIN)


def is_pair_shape(thing):
    """Whether a thing is a pair, of whatever things."""
    return isinstance(thing, tuple) and len(thing) == 2


def is_pair(thing):
    """Whether a thing is a pair of terms that may be handed in."""
    return is_pair_shape(thing) and are_terms(thing, MOST_WITHIN)


def is_row_of_pairs(thing):
    """Whether a thing is a row of pairs of terms."""
    return is_row(thing) and all([is_pair_shape(pair) for pair in thing]) and are_terms(sides_of(thing), MOST_WITHIN)


def as_tuple(thing):
    """A list as a tuple; all else as it is."""
    return tuple(thing) if isinstance(thing, list) else thing


def as_dict(thing):
    """A new dict for a dict; all else as it is."""
    return dict(thing) if isinstance(thing, dict) else thing


def parts_of(term):
    """All that stands in a term, itself too, each thing ahead of its own parts, from the left."""
    return parts_up_to(term, None)


def parts_up_to(term, most):
    """The same, if there are at most so many, None for any number; None if there are more."""
    found = []
    waiting = [term]
    while waiting:
        if most is not None and len(found) == most:
            return None
        part = waiting.pop()
        found.append(part)
        if is_compound(part):
            waiting.extend(part[1][::-1])
    return found


def names_in(terms):
    """The names of the unknowns of a row of terms, each once, as they come first."""
    found = {}
    for term in terms:
        parts = parts_up_to(term, FEW_STEPS)
        for part in unlike_unknowns_in(term) if parts is None else parts:
            if is_unknown(part):
                found[part[1]] = True
    return list(found)


def unlike_unknowns_in(term):
    """The list of the unlike unknowns of a term, as they come first; what is shared in it is gone through once."""
    parts, _ = unlike_parts([term], FEW_STEPS)
    pairs = [inner for inner, _ in parts if inner is not None and len(inner) == 2]
    return [("?", parts[name][1]) for sign, name in pairs if parts[sign][1] == "?"]


def sides_of(pairs):
    """The terms of a row of pairs, in order."""
    return [term for pair in pairs for term in pair]


def integer_text(number):
    """An integer with all its figures, however many there are."""
    rest = abs(number)
    pieces = []
    while rest >= PIECE:
        rest, piece = divmod(rest, PIECE)
        pieces.append(str(piece).zfill(PIECE_FIGURES))
    pieces.append(str(rest))
    return ("-" if number < 0 else "") + "".join(pieces[::-1])


def unknown_text(name):
    """The name of an unknown as a text."""
    return integer_text(name) if is_integer(name) else name


def name_key(name):
    """By this names of unknowns ascend."""
    return (0, name) if is_integer(name) else (1, name)


def constant_key(constant):
    """By this constants ascend."""
    return (0, constant) if is_integer(constant) else (1, constant)
