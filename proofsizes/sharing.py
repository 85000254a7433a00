"""Nests of tuples, as proofs and terms are: they may be deep, and what stands in them may be shared.

A nest that shares its parts may be far too large to be gone through place by place, though few of its
parts are unlike. A nest that is deep can't be compared by Python itself, which goes down place by place.
"""

# So many places are gone through one by one, ahead of all care for what is shared: of terms, which are
# never very deep, and of all nests.
FEW_STEPS = 20000
MOST_STEPS = 1000000


def unlike_parts(things, steps):
    """All unlike parts of a row of things, each behind those that stand in it, and the row of the things' numbers.

    A part is a pair: of a tuple the numbers of what stands in it, and None; of all else None, and it itself.
    Behind so many steps nothing that was met is gone through again.
    """
    parts = []
    numbers = {}
    odd = []
    met = {}
    built = []
    waiting = [(thing, None) for thing in things[::-1]]
    made = 0
    while waiting:
        thing, ends = waiting.pop()
        made += 1
        if not isinstance(thing, tuple):
            inner = None
            key = key_of_leaf(thing, odd)
            if key == ("", len(odd)):
                odd.append(thing)
        elif ends is None:
            ends = ends_of(thing) if made > steps and not is_row_of_tuples(thing) else ()
            number = number_met(met.get(ends, ()), thing)
            if number is None:
                waiting.append((thing, ends))
                waiting.extend([(part, None) for part in thing[::-1]])
            else:
                built.append(number)
            continue
        else:
            inner = tuple([built.pop() for _ in thing][::-1])
            key = inner
        number = numbers.setdefault(key, len(parts))
        if number == len(parts):
            parts.append((inner, thing if inner is None else None))
        if inner is not None and ends:
            met[ends] = met.get(ends, ()) + ((thing, number),)
        built.append(number)
    return parts, built


def key_of_leaf(leaf, odd):
    """A key that is the same for what is the same and is no tuple; True and 1 have unlike ones."""
    if leaf is None or isinstance(leaf, (int, str)):
        return "", isinstance(leaf, bool), leaf
    found = [at for at, one in enumerate(odd) if one == leaf]
    return "", found[0] if found else len(odd)


def is_row_of_tuples(thing):
    """Whether a tuple has nothing but tuples in it, as rows of trees have."""
    return all([isinstance(part, tuple) for part in thing])


def ends_of(thing):
    """What is met on some ways from a nest into it, down to its ends; it is the same for nests that are the same.

    Nests that have the same ends are one and the same tuple mostly, and Python sees that at once. So those
    alone are compared: of others it might have to go down far to see that they are unlike.
    """
    met, widest = met_on_way(thing, 0, 0)
    found = [tuple(met)]
    ways = [(0, 1), (1, 0), (1, 1)] if widest > 1 else []
    for place, other in ways:
        met, wide = met_on_way(thing, place, other)
        found.append(tuple(met))
        widest = max(widest, wide)
    for place in range(2, widest):
        met, _ = met_on_way(thing, place, place)
        found.append(tuple(met))
    return tuple(found)


def met_on_way(thing, place, other):
    """What is met on a way into a nest, and how many tuples a row has on it at most.

    In rows of tuples the way goes into those in two places, in turns, or into the last one.
    """
    found = []
    widest = 1
    part = thing
    while isinstance(part, tuple) and part:
        if isinstance(part[0], tuple):
            many = len(part)
            found.append(many)
            if many > 1:
                widest = max(widest, many)
                part = part[min(place, many - 1)]
                place, other = other, place
            else:
                part = part[0]
        else:
            found.append(sign_of(part[0]))
            part = part[-1]
    found.append(sign_of(part))
    return found, widest


def sign_of(leaf):
    """What tells of a leaf that is an integer or a string; True and 1 are the same to Python, but not here."""
    if isinstance(leaf, bool):
        return str(leaf)
    return leaf if isinstance(leaf, (int, str)) else None


def number_met(row, thing):
    """The number of a thing among those of a row of pairs; None if it is none of them."""
    for known, number in row:
        if known == thing:
            return number
    return None


def are_same(pairs, steps):
    """Whether both sides of all pairs of things are the same; shared parts are cared for behind so many steps."""
    waiting = list(pairs)
    made = 0
    while waiting and made < steps:
        made += 1
        one, other = waiting.pop()
        if not isinstance(one, tuple) or not isinstance(other, tuple):
            if one != other:
                return False
        elif len(one) != len(other):
            return False
        else:
            waiting.extend(list(zip(one, other)))
    if not waiting:
        return True
    # Each side shares its parts with itself alone, so these are told apart ahead of comparing them.
    first = unlike_parts([one for one, _ in pairs], steps)
    return first == unlike_parts([other for _, other in pairs], steps)


def are_same_rows(one, other):
    """Whether two things are the same; of two rows each thing is compared by itself."""
    if not isinstance(one, tuple) or not isinstance(other, tuple):
        return one == other
    return len(one) == len(other) and all([are_same([pair], MOST_STEPS) for pair in zip(one, other)])


def are_same_dicts(one, other):
    """Whether two things are the same, dicts from what is no nest to nests mostly."""
    if not isinstance(one, dict) or not isinstance(other, dict):
        return one == other
    if len(one) != len(other) or not all([key in other for key in one]):
        return False
    return are_same([(one[key], other[key]) for key in one], MOST_STEPS)
