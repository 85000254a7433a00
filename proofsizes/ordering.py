"""The order of terms, and of rows of them, however large: parts that were found to be the same are passed over."""

from proofsizes.nodes import count_signs
from proofsizes.terms import constant_key, name_key

# So many signs are told of each row at once; those alone that begin with the same ones are compared.
FEW_SIGNS = 60


def sign_key(node):
    """The place of a term in the order, but for its parts."""
    if node.inner is None:
        return (2, name_key(node.name))
    if node.inner:
        return (3, len(node.inner), node.name)
    return constant_key(node.name)


def first_signs(nodes):
    """The keys of the first signs of a row of terms, from the left, and whether there are more."""
    found = []
    waiting = list(nodes)[::-1]
    while waiting and len(found) < FEW_SIGNS:
        node = waiting.pop()
        found.append(sign_key(node))
        waiting.extend((node.inner or ())[::-1])
    return tuple(found), len(waiting) > 0


def is_below(ones, others):
    """Whether a row of terms comes ahead of another one."""
    met = {}
    waiting = list(zip(ones, others))[::-1]
    while waiting:
        one, other = waiting.pop()
        first, second = sign_key(one), sign_key(other)
        if first != second:
            return first < second
        # A pair that was met is behind what was found to be the same.
        if one != other and one.inner and (one, other) not in met:
            met[one, other] = True
            waiting.extend(list(zip(one.inner, other.inner))[::-1])
    return len(ones) < len(others)


def ascending(things, rows):
    """The list of things, in the order of the rows of terms of each; things with the same row stay as they stand."""
    keys = {}
    for at, row in enumerate(rows):
        keys.setdefault(first_signs(row), []).append(at)
    found = []
    for signs, has_more in sorted(keys):
        group = keys[signs, has_more]
        found.extend(merged([[at] for at in group], rows) if has_more else group)
    return [things[at] for at in found]


def merged(lots, rows):
    """The list of the numbers of rows that stand, ascending, in lists, all together ascending."""
    while len(lots) > 1:
        joined = [joined_lots(one, other, rows) for one, other in zip(lots[::2], lots[1::2])]
        lots = joined + lots[len(joined) * 2:]
    return lots[0]


def joined_lots(one, other, rows):
    """Two ascending lists of numbers of rows as one."""
    found = []
    first, second = 0, 0
    while first < len(one) and second < len(other):
        if is_below(rows[other[second]], rows[one[first]]):
            found.append(other[second])
            second += 1
        else:
            found.append(one[first])
            first += 1
    return found + one[first:] + other[second:]


def ascending_by_signs(things, rows):
    """The same, but rows with fewer signs come first."""
    lots = {}
    for at, row in enumerate(rows):
        lots.setdefault(count_signs(row), []).append(at)
    found = []
    for many in sorted(lots):
        found.extend(ascending([things[at] for at in lots[many]], [rows[at] for at in lots[many]]))
    return found
