"""Integers with bounds on how far they are apart: integers that keep all, or why there are none."""

from heapq import heappop, heappush

from proofsizes.errors import RelationError
from proofsizes.terms import as_dict, as_tuple, is_integer, is_name, is_number_below, is_row


class BadBound(RelationError):
    """No row of bounds, or no name, then the number is None; or the first thing in a row that is no bound."""

    def __init__(self, number):
        self.number = number


class Placed:
    """Integers for all names that keep all bounds."""

    def __init__(self, places):
        self.places = as_dict(places)

    def __bool__(self):
        return True

    def __eq__(self, other):
        return isinstance(other, Placed) and self.places == other.places

    def shows(self, bounds):
        """Whether these integers are for just the names, and keep all."""
        check_bounds(bounds)
        return are_places(self.places, bounds) and are_kept(bounds, self.places)


class Round:
    """Numbers of bounds that lead from a side to itself, with a sum below 0."""

    def __init__(self, numbers):
        self.numbers = as_tuple(numbers)

    def __bool__(self):
        return False

    def __eq__(self, other):
        return isinstance(other, Round) and self.numbers == other.numbers

    def shows(self, bounds):
        """Whether the bounds lead so."""
        check_bounds(bounds)
        led = led_by_bounds(self.numbers, bounds)
        return led is not None and led[0] == led[1] and led[2] < 0


class Chain:
    """Numbers of bounds that lead from a bound's first side to its second one, with no greater sum."""

    def __init__(self, numbers):
        self.numbers = as_tuple(numbers)

    def __bool__(self):
        return True

    def __eq__(self, other):
        return isinstance(other, Chain) and self.numbers == other.numbers

    def shows(self, bounds, bound):
        """Whether the bounds lead so."""
        check_with_bound(bounds, bound)
        led = led_by_bounds(self.numbers, bounds)
        return led is not None and (led[0], led[1]) == (bound[0], bound[1]) and led[2] <= bound[2]


class Broken:
    """Integers for all names that keep all bounds but a single one."""

    def __init__(self, places):
        self.places = as_dict(places)

    def __bool__(self):
        return False

    def __eq__(self, other):
        return isinstance(other, Broken) and self.places == other.places

    def shows(self, bounds, bound):
        """Whether these integers are for just the names, and it is so by them."""
        check_with_bound(bounds, bound)
        if not are_places(self.places, list(bounds) + [bound]):
            return False
        return are_kept(bounds, self.places) and not are_kept([bound], self.places)


def judge_gaps(bounds):
    """A Placed, or a Round, of a row of bounds."""
    check_bounds(bounds)
    places, numbers = settled(bounds)
    return Round(numbers) if places is None else Placed(places)


def closed(bounds):
    """The dict from pairs of unlike sides to the least numbers with which bounds of them follow; or None."""
    check_bounds(bounds)
    places = settled(bounds)[0]
    if places is None:
        return None
    sides = sides_of_bounds(bounds)
    nearest = Nearest(bounds, sides, places)
    sums = {side: nearest.sums_from(side) for side in sides}
    pairs = [(one, other) for one in sides for other in sides if one != other and other in sums[one]]
    return {(one, other): sums[one][other] for one, other in pairs}


class Nearest:
    """Least sums of bounds that lead from a side to others, where some integers keep all bounds.

    What a bound leaves between these integers is never below 0, so the sides that are led to
    with the least of it come first, and are done with then.
    """

    def __init__(self, bounds, sides, places):
        self.sides = sides
        self.numbers = {side: at for at, side in enumerate(sides)}
        self.heights = [place_of(side, places) for side in sides]
        self.leading = [{} for _ in sides]
        for one, other, more in bounds:
            start, end = self.numbers[one], self.numbers[other]
            room = more + self.heights[end] - self.heights[start]
            self.leading[start][end] = min(room, self.leading[start].get(end, room))

    def sums_from(self, side):
        """The dict from all sides that bounds lead to, from a side, to their least sums."""
        start = self.numbers[side]
        done = {}
        waiting = [(0, start)]
        while waiting:
            room, at = heappop(waiting)
            if at in done:
                continue
            done[at] = room
            for end, more in self.leading[at].items():
                if end not in done:
                    heappush(waiting, (room + more, end))
        return {self.sides[at]: done[at] + self.heights[start] - self.heights[at] for at in done}


def judge_bound(bounds, bound):
    """A Chain, or a Broken, of bounds and one that may follow; the Round if nothing keeps the bounds."""
    check_with_bound(bounds, bound)
    places, numbers = settled(bounds)
    if places is None:
        return Round(numbers)
    one, other, number = bound
    sums, behind = least_sums(bounds, one)
    if other in sums and sums[other] <= number:
        return Chain(traced(bounds, behind, one, other))
    return Broken(settled(list(bounds) + [(other, one, -number - 1)])[0])


def is_following(bounds, bound):
    """Whether integers that keep bounds keep another one, too."""
    if settled(bounds)[0] is None:
        return True
    sums = least_sums(bounds, bound[0])[0]
    return bound[1] in sums and sums[bound[1]] <= bound[2]


def is_side(thing):
    """Whether a thing is a side of a bound."""
    return thing is None or is_name(thing)


def is_bound(thing):
    """Whether a thing is a bound of two unlike sides."""
    if not isinstance(thing, tuple) or len(thing) != 3:
        return False
    return is_side(thing[0]) and is_side(thing[1]) and thing[0] != thing[1] and is_integer(thing[2])


def check_bounds(bounds):
    """Raises BadBound for what is no row of bounds."""
    if not is_row(bounds):
        raise BadBound(None)
    for number, bound in enumerate(bounds):
        if not is_bound(bound):
            raise BadBound(number)


def check_with_bound(bounds, bound):
    """Raises BadBound for what is no row of bounds, then for what is no bound."""
    check_bounds(bounds)
    if not is_bound(bound):
        raise BadBound(0)


def sides_of_bounds(bounds):
    """The list of all sides of bounds, the number 0 first, if it is one, then the names, ascending."""
    sides = [side for one, other, _ in bounds for side in (one, other)]
    return ([None] if None in sides else []) + names_of_bounds(bounds)


def names_of_bounds(bounds):
    """The ascending list of the names in bounds."""
    return sorted(set([side for one, other, _ in bounds for side in (one, other) if side is not None]))


def are_places(thing, bounds):
    """Whether a thing is a dict from just the names in bounds to integers."""
    if not isinstance(thing, dict) or not all([is_name(name) and is_integer(thing[name]) for name in thing]):
        return False
    return sorted(thing) == names_of_bounds(bounds)


def are_kept(bounds, places):
    """Whether integers keep all bounds."""
    return all([place_of(one, places) <= place_of(other, places) + number for one, other, number in bounds])


def place_of(side, places):
    """The integer of a side."""
    return 0 if side is None else places[side]


def led_by_bounds(numbers, bounds):
    """The first side, the last one and the sum of a row of bounds, each of which goes on from the one ahead."""
    if not isinstance(numbers, tuple) or not numbers:
        return None
    if not all([is_number_below(number, len(bounds)) for number in numbers]):
        return None
    row = [bounds[number] for number in numbers]
    if any([row[at][1] != row[at + 1][0] for at in range(len(row) - 1)]):
        return None
    return row[0][0], row[-1][1], sum([bound[2] for bound in row])


def settled(bounds):
    """Integers that keep all bounds, and None; or None and the numbers of a round."""
    sides = sides_of_bounds(bounds)
    sums = {side: 0 for side in sides}
    behind = {}
    last = None
    for _ in range(len(sides) + 1):
        last = lowered(bounds, sums, behind)
        if last is None:
            least = sums.get(None, 0)
            return {side: least - sums[side] for side in sides if side is not None}, None
    # Sums without end come of a round; so many bounds back all sides stand in it.
    side = bounds[last][0]
    for _ in sides:
        side = bounds[behind[side]][0]
    return None, traced(bounds, behind, side, side)


def least_sums(bounds, start):
    """The least sums of bounds that lead from a side to others, and the last bounds of these."""
    sums = {start: 0}
    behind = {}
    while lowered(bounds, sums, behind) is not None:
        pass
    return sums, behind


def lowered(bounds, sums, behind):
    """Lowers the sums of sides by each bound once, and notes by which; the last one that did, or None."""
    last = None
    for number, (one, other, more) in enumerate(bounds):
        if one in sums and (other not in sums or sums[one] + more < sums[other]):
            sums[other] = sums[one] + more
            behind[other] = number
            last = number
    return last


def traced(bounds, behind, start, end):
    """The numbers of the bounds, one at least, that led from a side to another one, or round."""
    numbers = [behind[end]]
    while bounds[numbers[-1]][0] != start:
        numbers.append(behind[bounds[numbers[-1]][0]])
    return numbers[::-1]
