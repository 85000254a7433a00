"""All proofs of a question within a bound, with their answers."""

from proofsizes.opening import is_soon_spent

from proofsizes.proofs import numbers_in
from proofsizes.ways import trees_of


# Up to this size each one is gone through; of greater ones that alone which can be told of all of them.
MOST_IN_TURN = 1000
FIRST_ALIKE = 240
PERIOD = 60
# Questions are mostly spent behind fewer levels, if they are spent at all.
MOST_LEVELS = 1024


class Sizes:
    """Which sizes the trees of relations can have, as far as the goals of rules tell.

    Sizes are kept as bits of an integer: the bit with a number stands for that size. If there
    is no bound to them in reach, a bit from FIRST_ALIKE on stands for all sizes that are as much
    above it as some periods: sums of sizes that stand for others stand for the sums of these.
    """

    def __init__(self, ways, most):
        self.is_bounded = most <= MOST_IN_TURN
        self.width = most + 1 if self.is_bounded else FIRST_ALIKE + PERIOD
        self.limit = (1 << self.width) - 1
        self.known = {}
        self.sizes = {relation: 0 for relation in ways.numbers}
        before = None
        while before != self.sizes:
            before = self.sizes
            self.sizes = {relation: self.by_rules(ways, relation) for relation in before}

    def by_rules(self, ways, relation):
        """The sizes of a relation's trees, if those within have the sizes that are found so far."""
        found = 0
        for number in ways.numbers[relation]:
            found |= self.together([inner for inner, _ in ways.rules[number].asked]) << 1
        return self.within(found)

    def within(self, found):
        """The bits of sizes that are kept, for all bits of sizes."""
        while not self.is_bounded and found > self.limit:
            found = found & self.limit | found >> self.width << FIRST_ALIKE
        return found & self.limit

    def together(self, relations):
        """The sizes that a tree of each of some relations can have together."""
        found = 1
        for relation in relations:
            found = self.sums(found, self.sizes.get(relation, 0))
        return found

    def sums(self, one, other):
        """The sums of two sizes, up to the greatest that is asked for."""
        found = 0
        for size in range(one.bit_length()):
            if one >> size & 1:
                found |= other << size
        return self.within(found)

    def can_be(self, relations, size):
        """Whether trees of some relations can have a size together."""
        key = tuple(sorted(relations))
        if key not in self.known:
            self.known[key] = self.together(relations)
        if size >= self.width:
            size = FIRST_ALIKE + (size - FIRST_ALIKE) % PERIOD
        return self.known[key] >> size & 1 == 1


class OfSize:
    """The bound of just so many rules."""

    def __init__(self, sizes, size):
        self.sizes = sizes
        self.size = size

    def lets(self, way):
        """Whether a way may come to so many rules."""
        left = self.size - len(way.taken)
        return left >= 0 and self.sizes.can_be([goal.relation for goal in way.goals], left)


def spent_behind(program, question):
    """A number of levels behind which no goals are open in any way; None if that isn't found in few steps."""
    levels = 1
    while levels <= MOST_LEVELS:
        if is_soon_spent(program, question, levels):
            return levels
        levels = 2 * levels
    return None


class OfLevels:
    """The bound of so many rules within one another at most."""

    def __init__(self, ways, levels):
        self.levels = levels
        self.least = {}
        new = [relation for relation in ways.numbers if self.has_rule(ways, relation)]
        level = 1
        while new:
            for relation in new:
                self.least[relation] = level
            level += 1
            others = [relation for relation in ways.numbers if relation not in self.least]
            new = [relation for relation in others if self.has_rule(ways, relation)]

    def has_rule(self, ways, relation):
        """Whether a relation has a rule whose goals all have trees with the levels found so far."""
        rules = [ways.rules[number] for number in ways.numbers[relation]]
        return any([all([inner in self.least for inner, _ in rule.asked]) for rule in rules])

    def lets(self, way):
        """Whether trees for all open goals may stand within the levels."""
        return all([self.has_room(goal) for goal in way.goals])

    def has_room(self, goal):
        """Whether a tree for an open goal may stand within the levels."""
        return goal.relation in self.least and goal.level + self.least[goal.relation] - 1 <= self.levels


def found_proofs(ways, bound):
    """Rows of numbers, proofs and answer for all proofs that a bound lets through, by sizes, then by numbers."""
    found = []
    waiting = []
    way = ways.first()
    many = 0 if way is None else way.many
    while way is not None or waiting:
        if way is not None and bound.lets(way):
            if way.goals:
                mark = ways.bindings.mark()
                place, numbers = ways.narrowest(way)
                waiting.extend([(mark, way, place, number) for number in numbers])
            else:
                found.append(found_row(ways, way, many))
        way = None
        if waiting:
            mark, before, place, number = waiting.pop()
            ways.bindings.undo(mark)
            way = ways.behind(before, place, number)
    return sorted(found, key=lambda row: row[0])


def found_row(ways, way, many):
    """What is told of a way without open goals: its size and numbers, by which it is sorted, proofs and answer."""
    proofs = trees_of(way, many)
    numbers = numbers_in(proofs)
    return (len(numbers), tuple(numbers)), proofs, ways.answer_behind(way)
