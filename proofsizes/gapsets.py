"""Sets of integers that keep bounds: the same ones, without a name, within others together, how many."""

from proofsizes.errors import TooLarge
from proofsizes.gaps import BadBound, are_kept, are_places, check_bounds, closed, is_following, names_of_bounds
from proofsizes.gaps import settled
from proofsizes.placing import counted_rows, ranges_of
from proofsizes.terms import as_dict, is_name, is_row

MOST_LOTS = 60
MOST_WAYS = 4096


class Within:
    """Integers that keep some bounds keep all of one of some rows of bounds."""

    def __bool__(self):
        return True

    def __eq__(self, other):
        return isinstance(other, Within)

    def shows(self, bounds, lots):
        """Whether it is so."""
        return bool(judge_within(bounds, lots))


class Beside:
    """Integers for all names that keep some bounds, and not all of any of some rows of bounds."""

    def __init__(self, places):
        self.places = as_dict(places)

    def __bool__(self):
        return False

    def __eq__(self, other):
        return isinstance(other, Beside) and self.places == other.places

    def shows(self, bounds, lots):
        """Whether these integers are for just the names, and it is so by them."""
        check_lots(bounds, lots)
        if not are_places(self.places, all_bounds(bounds, lots)) or not are_kept(bounds, self.places):
            return False
        return not any([are_kept(lot, self.places) for lot in lots])


def judge_within(bounds, lots):
    """A Within, or a Beside, of a row of bounds and a row of rows of bounds."""
    check_lots(bounds, lots)
    names = names_of_bounds(all_bounds(bounds, lots))
    # What has one bound alone must break it, so that is asked at once.
    waiting = [list(bounds) + [broken_bound(lot[0]) for lot in lots if len(lot) == 1]]
    while waiting:
        asked = waiting.pop()
        kept = settled(asked)[0]
        if kept is None:
            continue
        places = {name: kept.get(name, 0) for name in names}
        wholly = [lot for lot in lots if are_kept(lot, places)]
        if not wholly:
            return Beside(places)
        waiting.extend([asked + [broken_bound(bound)] for bound in min(wholly, key=len)])
    return Within()


def broken_bound(bound):
    """The bound that is kept just if another one is not."""
    one, other, number = bound
    return other, one, -number - 1


def all_bounds(bounds, lots):
    """All bounds of a row and of rows of them."""
    return list(bounds) + [bound for lot in lots for bound in lot]


def check_lots(bounds, lots):
    """Raises BadBound for what is no row of bounds, or no row of such rows, TooLarge for too many of these."""
    check_bounds(bounds)
    if not is_row(lots):
        raise BadBound(None)
    for lot in lots:
        check_bounds(lot)
    if len(lots) > MOST_LOTS:
        raise TooLarge(len(lots))
    ways = 1
    for lot in lots:
        ways = ways * max(1, len(lot))
    if ways > MOST_WAYS:
        raise TooLarge(ways)


def judge_same_bounds(one, other):
    """Whether two rows of bounds are kept by the same integers."""
    check_bounds(one)
    check_bounds(other)
    return all_follow(one, other) and all_follow(other, one)


def all_follow(bounds, others):
    """Whether integers that keep the bounds keep all others."""
    return all([is_following(bounds, bound) for bound in others])


def without_name(bounds, name):
    """The list of bounds for the others with which some integer for a name keeps all; None if nothing does."""
    check_bounds(bounds)
    if not is_name(name):
        raise BadBound(None)
    table = closed(bounds)
    if table is None:
        return None
    return [(one, other, table[one, other]) for one, other in table if name != one and name != other]


def needless_bounds(bounds):
    """The ascending tuple of the numbers of bounds that follow from the others."""
    check_bounds(bounds)
    rows = list(bounds)
    return tuple([number for number in range(len(rows)) if is_needless(rows, number)])


def is_needless(bounds, number):
    """Whether a bound with a number follows from the others."""
    return is_following(bounds[:number] + bounds[number + 1:], bounds[number])


def least_bounds(bounds):
    """A list of some bounds, none of them needless, that are kept by the same integers."""
    check_bounds(bounds)
    left = list(bounds)
    for number in reversed(range(len(bounds))):
        if is_needless(left, number):
            del left[number]
    return left


def count_places(bounds, most):
    """How many rows of integers for the names keep all bounds; None for more than most."""
    check_bounds(bounds)
    places = settled(bounds)[0]
    if places is None:
        many = 0
    else:
        ranges = ranges_of(bounds, places)
        if ranges is None:
            return None
        many = counted_rows(bounds, ranges, places, most)
    return many if many <= most else None
