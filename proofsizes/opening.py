"""Whether goals are open behind some levels, in some way to take rules."""

from proofsizes.ways import Way, Ways

FEW_STEPS = 500


class Opening:
    """A search for a way with an open goal behind some levels.

    One goal is followed down, from the question's to one behind the levels: that alone
    mostly tells that there is no such way. Then the goals beside it are to have rules, too,
    as far as they stand within the levels.
    """

    def __init__(self, ways, levels):
        self.ways = ways
        self.levels = levels
        asking = ways.rules + [ways.question]
        self.lasting = [{relation: True for rule in asking for relation, _ in rule.asked}]
        while len(self.lasting) <= levels and self.lasting[-1] != self.lasting_more(self.lasting[-1]):
            self.lasting.append(self.lasting_more(self.lasting[-1]))
        self.lenient = lenient_relations(ways)

    def lasting_more(self, ahead):
        """The relations with a rule that asks one of some relations."""
        found = {}
        for relation in self.ways.numbers:
            rules = [self.ways.rules[number] for number in self.ways.numbers[relation]]
            if any([inner in ahead for rule in rules for inner, _ in rule.asked]):
                found[relation] = True
        return found

    def lasts(self, relation, levels):
        """Whether the goals of rules let something be open so many levels behind a relation's goal."""
        # Behind the last levels that are kept the relations stay the same.
        return relation in self.lasting[min(levels, len(self.lasting) - 1)]

    def finds(self, most):
        """Whether there is such a way; None if that isn't found in most steps, which are None for any number."""
        way = self.ways.first()
        if way is None or self.levels == 0:
            return way is not None and len(way.goals) > 0
        waiting = []
        for goal in way.goals:
            if self.lasts(goal.relation, self.levels):
                waiting.extend(self.choices(way, goal.node))
        steps = 0
        while waiting:
            if steps == most:
                return None
            steps += 1
            mark, before, place, number, followed = waiting.pop()
            self.ways.bindings.undo(mark)
            way = self.ways.behind(before, place, number)
            if way is not None:
                way = self.to_do(way, followed)
                if followed is None and not way.goals:
                    return True
                waiting.extend(self.choices(way, followed))
        return False

    def to_do(self, way, followed):
        """A way with those of its goals alone that are followed, or for which rules might not be found."""
        goals = [goal for goal in way.goals if goal.node == followed or self.is_to_do(goal)]
        return Way(tuple(goals), way.unlikes, way.taken, way.many)

    def is_to_do(self, goal):
        """Whether a goal stands within the levels and asks something."""
        return goal.level <= self.levels and goal.relation not in self.lenient

    def choices(self, way, followed):
        """What may be taken next, each with the goal that is followed then, None behind the levels."""
        mark = self.ways.bindings.mark()
        place, numbers = self.ways.narrowest(way)
        if not numbers:
            return []
        if followed is None:
            # What is tried first stands last: rules with few goals leave little to be done.
            order = sorted(numbers, key=lambda number: -len(self.ways.rules[number].asked))
            return [(mark, way, place, number, None) for number in order]
        place = [goal.node for goal in way.goals].index(followed)
        found = []
        for number in self.ways.rules_for(way.goals[place]):
            for node in self.followed_next(way, way.goals[place].level, self.ways.rules[number].asked):
                found.append((mark, way, place, number, node))
        return found

    def followed_next(self, way, level, asked):
        """The goals of a rule, taken at a level, that may be followed: their places in the proofs."""
        if level == self.levels:
            return [None] if asked else []
        left = self.levels - level
        return [way.many + at for at, (relation, _) in enumerate(asked) if self.lasts(relation, left)]


def lenient_relations(ways):
    """Relations with rules that can always be taken, and so for what these ask, again and again."""
    found = {relation: True for relation in ways.numbers}
    before = len(found) + 1
    while len(found) < before:
        before = len(found)
        found = {relation: True for relation in found if has_lenient_rule(ways, relation, found)}
    return found


def has_lenient_rule(ways, relation, lenient):
    """Whether a relation has a rule without any condition whose goals are of some relations."""
    rules = [ways.rules[number] for number in ways.numbers[relation]]
    return any([rule.is_general() and all([inner in lenient for inner, _ in rule.asked]) for rule in rules])


def is_open_behind(program, question, levels):
    """Whether goals are open behind so many levels in some way."""
    return Opening(Ways(program, question), levels).finds(None)


def is_soon_spent(program, question, levels):
    """Whether few steps tell that no goals are open behind so many levels."""
    return Opening(Ways(program, question), levels).finds(FEW_STEPS) is False
