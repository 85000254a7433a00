"""Terms: what is one, what stands in it, its place in the order, terms put in for unknowns."""

from proofsizes.sharing import FEW_STEPS, are_same, unlike_parts

LETTERS = "abcdefghijklmnopqrstuvwxyz"
FIGURES = "0123456789"
MOST_SIGNS = 8
MOST_WITHIN = 20
# Python itself writes no integer that has a few thousand figures, so long ones are written piece by piece.
PIECE_FIGURES = 64
PIECE = 10 ** 64


def is_integer(thing):
    """Whether a thing is an integer; True and False are none."""
    return isinstance(thing, int) and not isinstance(thing, bool)


def is_number_below(thing, many):
    """Whether a thing is the number of one of so many."""
    return is_integer(thing) and 0 <= thing < many


def is_name(thing):
    """Whether a thing is a name."""
    if not isinstance(thing, str) or not 1 <= len(thing) <= MOST_SIGNS:
        return False
    return thing[0] in LETTERS and all([sign in LETTERS or sign in FIGURES for sign in thing])


def is_constant(thing):
    """Whether a thing is a constant."""
    return is_name(thing) or is_integer(thing)


def is_unknown_name(thing):
    """Whether an unknown can be called so."""
    return is_name(thing) or is_integer(thing) and thing >= 0


def is_row(thing):
    """Whether a thing is a list or a tuple."""
    return isinstance(thing, (list, tuple))


def is_unknown(term):
    """Whether a term is an unknown."""
    return isinstance(term, tuple) and term[0] == "?"


def is_compound(term):
    """Whether a term has parts."""
    return isinstance(term, tuple) and term[0] != "?"


def is_term_within(thing, most):
    """Whether a thing is a term with at most so many within one another, None for any number."""
    waiting = [(thing, 1)]
    made = 0
    while waiting:
        made += 1
        if made > FEW_STEPS:
            return is_shared_term_within(thing, most)
        part, level = waiting.pop()
        if most is not None and level > most:
            return False
        if not isinstance(part, tuple):
            if not is_constant(part):
                return False
        elif is_compound_shape(part):
            waiting.extend([(inner, level + 1) for inner in part[1]])
        elif len(part) != 2 or part[0] != "?" or not is_unknown_name(part[1]):
            return False
    return True


def is_shared_term_within(thing, most):
    """The same of a thing whose parts are gone through once each, as they may be shared."""
    parts, numbers = unlike_parts([thing], FEW_STEPS)
    levels = []
    for inner, leaf in parts:
        levels.append(levels_of_part(parts, levels, inner, leaf))
    found = levels[numbers[0]]
    return found is not None and (most is None or found <= most)


def levels_of_part(parts, levels, inner, leaf):
    """How many terms stand within one another in a part, by what is told of those ahead; None for what is no term."""
    if inner is None:
        return 1 if is_constant(leaf) else None
    if len(inner) != 2:
        return None
    name = parts[inner[0]][1]
    row, called = parts[inner[1]]
    if name == "?":
        return 1 if row is None and is_unknown_name(called) else None
    if not row or not is_name(name):
        return None
    within = [levels[part] for part in row]
    return None if None in within else 1 + max(within)


def is_compound_shape(part):
    """Whether a tuple is a compound, if its parts are terms."""
    if len(part) != 2 or not is_name(part[0]):
        return False
    return isinstance(part[1], tuple) and len(part[1]) > 0


def is_term(thing):
    """Whether a thing is a term as one may be handed in."""
    return is_term_within(thing, MOST_WITHIN)


def is_deep_term(thing):
    """Whether a thing is a term as one may come of the work."""
    return is_term_within(thing, None)


def is_ground_term(thing):
    """Whether a thing is a term, however deep, in which no unknown stands."""
    return is_deep_term(thing) and not has_unknown(thing)


def has_unknown(term):
    """Whether an unknown stands in a term."""
    parts, _ = unlike_parts([term], FEW_STEPS)
    return any([inner is None and leaf == "?" for inner, leaf in parts])


def is_row_of_terms(thing):
    """Whether a thing is a row of terms that may be handed in."""
    return is_row(thing) and all([is_term(term) for term in thing])


def is_pair(thing):
    """Whether a thing is a pair of terms that may be handed in."""
    return isinstance(thing, tuple) and len(thing) == 2 and is_term(thing[0]) and is_term(thing[1])


def is_row_of_pairs(thing):
    """Whether a thing is a row of pairs of terms."""
    return is_row(thing) and all([is_pair(pair) for pair in thing])


def as_tuple(thing):
    """A list as a tuple; all else as it is."""
    return tuple(thing) if isinstance(thing, list) else thing


def as_dict(thing):
    """A new dict for a dict; all else as it is."""
    return dict(thing) if isinstance(thing, dict) else thing


def parts_of(term):
    """All that stands in a term, itself too, each thing ahead of its own parts, from the left."""
    return parts_up_to(term, None)


def parts_up_to(term, most):
    """The same, if there are at most so many, None for any number; None if there are more."""
    found = []
    waiting = [term]
    while waiting:
        if most is not None and len(found) == most:
            return None
        part = waiting.pop()
        found.append(part)
        if is_compound(part):
            waiting.extend(part[1][::-1])
    return found


def names_in(terms):
    """The names of the unknowns of a row of terms, each once, as they come first."""
    found = {}
    for term in terms:
        parts = parts_up_to(term, FEW_STEPS)
        for part in unlike_unknowns_in(term) if parts is None else parts:
            if is_unknown(part):
                found[part[1]] = True
    return list(found)


def unlike_unknowns_in(term):
    """The list of the unlike unknowns of a term, as they come first; what is shared in it is gone through once."""
    parts, _ = unlike_parts([term], FEW_STEPS)
    pairs = [inner for inner, _ in parts if inner is not None and len(inner) == 2]
    return [("?", parts[name][1]) for sign, name in pairs if parts[sign][1] == "?"]


def sides_of(pairs):
    """The terms of a row of pairs, in order."""
    return [term for pair in pairs for term in pair]


def integer_text(number):
    """An integer with all its figures, however many there are."""
    rest = abs(number)
    pieces = []
    while rest >= PIECE:
        rest, piece = divmod(rest, PIECE)
        pieces.append(str(piece).zfill(PIECE_FIGURES))
    pieces.append(str(rest))
    return ("-" if number < 0 else "") + "".join(pieces[::-1])


def unknown_text(name):
    """The name of an unknown as a text."""
    return integer_text(name) if is_integer(name) else name


def name_key(name):
    """By this names of unknowns ascend."""
    return (0, name) if is_integer(name) else (1, name)


def ascending_names(terms):
    """The names of the unknowns of a row of terms, ascending."""
    return sorted(names_in(terms), key=name_key)


def sign_key(part):
    """The place of a thing in the order of terms, but for its parts."""
    if is_unknown(part):
        return (2, name_key(part[1]))
    if is_compound(part):
        return (3, len(part[1]), part[0])
    return (0, part) if is_integer(part) else (1, part)


def terms_key(terms):
    """By this rows of terms ascend; it is as long as things stand in the terms."""
    return tuple([sign_key(part) for term in terms for part in parts_of(term)])


def pairs_key(pairs):
    """By this rows of pairs ascend."""
    return terms_key(sides_of(pairs))


def put_in(term, worth):
    """A term with the terms of a dict in place of the unknowns that it names."""
    built = put_in_small(term, worth)
    return put_in_shared([term], worth)[0] if built is None else built


def put_in_small(term, worth):
    """The same of a term without many parts; None for one that has more."""
    parts = parts_up_to(term, FEW_STEPS)
    if parts is None:
        return None
    built = []
    for part in reversed(parts):
        if is_compound(part):
            many = len(part[1])
            inner = tuple(built[-many:][::-1])
            del built[-many:]
            built.append((part[0], inner))
        elif is_unknown(part):
            built.append(worth.get(part[1], part))
        else:
            built.append(part)
    return built[0]


def put_in_shared(terms, worth):
    """The same of terms with many parts; what is shared in them is shared in the new ones."""
    parts, numbers = unlike_parts(terms, FEW_STEPS)
    built = []
    for inner, leaf in parts:
        if inner is None:
            built.append(leaf)
        else:
            row = tuple([built[part] for part in inner])
            built.append(worth.get(row[1], row) if row and row[0] == "?" else row)
    return [built[number] for number in numbers]


def put_in_row(terms, worth):
    """A list of terms with the terms of a dict put in."""
    found = [put_in_small(term, worth) for term in terms]
    return put_in_shared(terms, worth) if None in found else found


def put_in_pairs(pairs, worth):
    """A list of pairs with the terms of a dict put in."""
    return [(put_in(one, worth), put_in(other, worth)) for one, other in pairs]


def numbered(names, first):
    """A dict from names to unknowns that are named by integers, from a first one on."""
    return {name: ("?", first + at) for at, name in enumerate(names)}


def unused_integer(terms):
    """An integer from 0 on; it and all above it stand nowhere in a row of terms."""
    standing = [part for term in terms for part in parts_of(term) if is_integer(part)]
    return max([0] + [part + 1 for part in standing])


def unlike_constants(names, terms):
    """A dict from names to unlike constants that stand in none of the terms."""
    first = unused_integer(terms)
    return {name: first + at for at, name in enumerate(names)}


def are_alike(pairs):
    """Whether both sides of all pairs are the same as they stand."""
    return all([is_alike(one, other) for one, other in pairs])


def is_alike(one, other):
    """Whether two terms are the same as they stand, though they may be large, with shared parts."""
    if not is_compound(one) or not is_compound(other):
        return one == other
    return are_same([(one, other)], FEW_STEPS)


def matched(patterns, terms, worth):
    """More than a dict's terms for unknowns, by which patterns are the terms; None without any.

    The terms' own unknowns stand for themselves, so names may be shared.
    """
    found = dict(worth)
    waiting = list(zip(patterns, terms))
    while waiting:
        pattern, term = waiting.pop()
        if is_unknown(pattern):
            if found.setdefault(pattern[1], term) != term:
                return None
        elif is_compound(pattern):
            if not have_like_heads(pattern, term):
                return None
            waiting.extend(list(zip(pattern[1], term[1])))
        elif pattern != term:
            return None
    return found


def have_like_heads(one, other):
    """Whether a compound and a term are compounds of one name with as many terms."""
    return is_compound(other) and one[0] == other[0] and len(one[1]) == len(other[1])
