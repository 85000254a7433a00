"""Nests of tuples, as proofs and terms are: they may be deep, and what stands in them may be shared.

A nest that shares its parts may be far too large to be gone through place by place, though few of its
parts are unlike. A nest that is deep can't be compared by Python itself, which goes down place by place.
"""

# So many places are gone through one by one, ahead of all care for what is shared: of terms, which are
# never very deep, and of all nests.
FEW_STEPS = 20000
MOST_STEPS = 1000000
# So many places of one nest, and of a row of these, are looked at for True and False.
MOST_IN_ONE = 2200000
MOST_PLACES = 20000000
# A nest with so few places is soon gone through, so nobody asks whether it was met.
FEW_PLACES = 16
# Of those that were met so many, the last ones, are compared with one that has the same ends.
MOST_MET = 64
# So many ways are gone into a nest at most, to tell what is at its ends.
MOST_WAYS = 8
# So many places near the top of a nest are gone through as if they shared nothing with one another.
MOST_APART = 8


def unlike_parts(things, steps):
    """All unlike parts of a row of things, each behind those that stand in it, and the row of the things' numbers.

    A part is a pair: of a tuple the numbers of what stands in it, and None; of all else None, and it itself.
    Behind so many steps nothing large that was met in the same thing, not far from there, is gone through again:
    Python itself sees at once that a tuple is one and the same, but not that copies are, if parts are shared in them.
    """
    parts = []
    numbers = {}
    odd = []
    met = {}
    built = []
    waiting = [(thing, None, ((at,), MOST_APART // len(things))) for at, thing in reversed(list(enumerate(things)))]
    made = 0
    while waiting:
        thing, ends, place = waiting.pop()
        made += 1
        if not isinstance(thing, tuple):
            inner = None
            key = key_of_leaf(thing, odd)
            if key == ("", len(odd)):
                odd.append(thing)
        elif ends is None:
            ends = ends_of(thing) if made > steps and is_looked_for(thing) else ()
            number = number_met(met.get((place[0], ends), ()), thing)
            if number is None:
                waiting.extend([(thing, ends, place)] + parts_waiting(thing, place))
            else:
                built.append(number)
            continue
        else:
            inner = tuple([built.pop() for _ in thing][::-1])
            key = inner
        number = numbers.setdefault(key, len(parts))
        if number == len(parts):
            parts.append((inner, thing if inner is None else None))
        if inner is not None and ends:
            met[place[0], ends] = ((thing, number),) + met.get((place[0], ends), ())[:MOST_MET]
        built.append(number)
    return parts, built


def parts_waiting(thing, place):
    """What stands in a tuple, the last part first, each part with its own place as long as few are near the top."""
    path, share = place
    many = len([part for part in thing if isinstance(part, tuple)]) if share > 1 else 1
    if many > share:
        place = (path, 1)
    if many < 2 or many > share:
        return [(part, None, place) for part in thing[::-1]]
    return [(part, None, (path + (at,), share // many)) for at, part in enumerate(thing)][::-1]


def key_of_leaf(leaf, odd):
    """A key that is the same for what is the same and is no tuple; True and 1 have unlike ones."""
    if leaf is None or isinstance(leaf, (int, str)):
        return "", isinstance(leaf, bool), leaf
    found = [at for at, one in enumerate(odd) if one == leaf]
    return "", found[0] if found else len(odd)


def is_row_of_tuples(thing):
    """Whether a tuple has nothing but tuples in it, as rows of trees have."""
    return all([isinstance(part, tuple) for part in thing])


def is_looked_for(thing):
    """Whether it is asked of a tuple whether it was met; rows of trees and what is small is gone through again."""
    return not is_row_of_tuples(thing) and not is_small(thing)


def is_small(thing):
    """Whether few places are in a nest."""
    waiting = [thing]
    made = 0
    while waiting and made < FEW_PLACES:
        part = waiting.pop()
        made += 1
        if isinstance(part, tuple):
            if len(part) > FEW_PLACES:
                return False
            waiting.extend(part)
    return not waiting


def hide_truth_value(things, parts, numbers):
    """Whether True or False stands in things, though it may be none of the unlike parts that were found in them.

    Python itself takes True for 1, and so one tuple for another one that was met. It is looked for wherever there
    aren't too many places for that.
    """
    if not any([inner is None and isinstance(leaf, int) and leaf in (0, 1) for inner, leaf in parts]):
        return False
    places = []
    for inner, _ in parts:
        places.append(1 + sum([places[part] for part in inner or ()]))
    left = MOST_PLACES
    for thing, number in zip(things, numbers):
        if places[number] <= min(MOST_IN_ONE, left):
            left -= places[number]
            if has_truth_value(thing):
                return True
    return False


def has_truth_value(thing):
    """Whether True or False stands in a nest, which is gone through level by level."""
    row = [thing]
    while row:
        if any([isinstance(part, bool) for part in row]):
            return True
        row = [inner for part in row if isinstance(part, tuple) for inner in part]
    return False


def ends_of(thing):
    """What is met on some ways from a nest into it, down to its ends; it is the same for nests that are the same.

    Nests that have the same ends are one and the same tuple mostly, and Python sees that at once. So those
    alone are compared: of others it might have to go down far to see that they are unlike.
    """
    met, widest = met_on_way(thing, 0, 0)
    found = [tuple(met)]
    ways = [(0, 1), (1, 0), (1, 1)] if widest > 1 else []
    for place, other in ways:
        met, wide = met_on_way(thing, place, other)
        found.append(tuple(met))
        widest = max(widest, wide)
    for place in range(2, min(widest, MOST_WAYS)):
        met, _ = met_on_way(thing, place, place)
        found.append(tuple(met))
    return tuple(found)


def met_on_way(thing, place, other):
    """What is met on a way into a nest, and how many tuples a row has on it at most.

    In rows of tuples the way goes into those in two places, in turns, or into the last one.
    """
    found = []
    widest = 1
    part = thing
    while isinstance(part, tuple) and part:
        first = part[0]
        if isinstance(first, tuple):
            many = len(part)
            found.append(many)
            if many > 1:
                widest = many if many > widest else widest
                part = part[place] if place < many else part[-1]
                place, other = other, place
            else:
                part = first
        else:
            found.append(first if isinstance(first, str) else sign_of(first))
            part = part[-1]
    found.append(sign_of(part))
    return found, widest


def sign_of(leaf):
    """What tells of a leaf that is an integer or a string; True and 1 are the same to Python, but not here."""
    if isinstance(leaf, bool):
        return str(leaf)
    return leaf if isinstance(leaf, (int, str)) else None


def number_met(row, thing):
    """The number of a thing among those of a row of pairs; None if it is none of them."""
    for known, number in row:
        if known == thing:
            return number
    return None


def are_same(pairs, steps):
    """Whether both sides of all pairs of things are the same; shared parts are cared for behind so many steps."""
    waiting = list(pairs)
    made = 0
    while waiting and made < steps:
        made += 1
        one, other = waiting.pop()
        if not isinstance(one, tuple) or not isinstance(other, tuple):
            if one != other:
                return False
        elif len(one) != len(other):
            return False
        else:
            waiting.extend(list(zip(one, other)))
    if not waiting:
        return True
    # Each side shares its parts with itself alone, so these are told apart ahead of comparing them.
    first = unlike_parts([one for one, _ in pairs], steps)
    return first == unlike_parts([other for _, other in pairs], steps)


def are_same_rows(one, other, steps):
    """Whether two things are the same; of two rows each thing is compared by itself."""
    if not isinstance(one, tuple) or not isinstance(other, tuple):
        return one == other
    return len(one) == len(other) and all([are_same([pair], steps) for pair in zip(one, other)])


def are_same_dicts(one, other):
    """Whether two things are the same, dicts from what is no nest to terms mostly."""
    if not isinstance(one, dict) or not isinstance(other, dict):
        return one == other
    if len(one) != len(other) or not all([key in other for key in one]):
        return False
    return are_same([(one[key], other[key]) for key in one], FEW_STEPS)
