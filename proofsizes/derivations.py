"""All ways in which a flat program's facts follow from one another, and the proofs that they make."""

from heapq import heappop, heappush

from proofsizes.joining import FlatRule, fact_by


class Derivations:
    """For each fact the ways that rules make it: a rule's number and the facts of its relation goals."""

    def __init__(self, program, found):
        self.ways = {fact: [] for fact in found.known}
        for number, rule in enumerate(program.rules):
            flat = FlatRule(rule, ())
            for row in flat.rows_by(found):
                goals = [fact_by(goal, row) for goal in flat.goals]
                self.ways[fact_by(flat.head, row)].append((number, goals))

    def uses(self):
        """For each fact the places of the ways in which it is a goal, as often as it is one; and all ways."""
        found = {fact: [] for fact in self.ways}
        ways = []
        for fact in self.ways:
            for way in self.ways[fact]:
                for goal in way[1]:
                    found[goal].append(len(ways))
                ways.append((fact, way))
        return found, ways

    def least_ways(self):
        """The dict from all facts, each behind those of its least way, to a least size and that way.

        The fact with the least size of all that are still to be found follows from found ones.
        """
        uses, ways = self.uses()
        lacking = [len(goals) for _, (_, goals) in ways]
        sizes = [1 for _ in ways]
        waiting = []
        for at, many in enumerate(lacking):
            if many == 0:
                heappush(waiting, (1, at))
        found = {}
        while waiting:
            size, at = heappop(waiting)
            fact, way = ways[at]
            if fact in found:
                continue
            found[fact] = (size, way)
            for use in uses[fact]:
                lacking[use] -= 1
                sizes[use] += size
                if lacking[use] == 0:
                    heappush(waiting, (sizes[use], use))
        return found

    def least_sizes(self):
        """The dict from all facts to how many rules a least proof has."""
        found = self.least_ways()
        return {fact: found[fact][0] for fact in found}

    def least_tree(self, fact):
        """A proof of a fact with the fewest rules."""
        found = self.least_ways()
        trees = {}
        for other in found:
            number, goals = found[other][1]
            trees[other] = (number, tuple([trees[goal] for goal in goals]))
        return trees[fact]

    def count_trees(self, fact):
        """How many proofs a fact has; None for endless many."""
        order = self.order_behind(fact)
        if order is None:
            return None
        many = {}
        for other in order:
            many[other] = sum([product_of([many[goal] for goal in goals]) for _, goals in self.ways[other]])
        return many[fact]

    def order_behind(self, fact):
        """The list of all facts in proofs of a fact, each behind those it follows from; None if there is a ring."""
        done = {}
        path = [(fact, self.asked_for(fact))]
        on_path = {fact: True}
        while path:
            other, goals = path[-1]
            if not goals:
                done[other] = True
                del on_path[other]
                path.pop()
                continue
            goal = goals.pop()
            if goal in on_path:
                return None
            if goal not in done:
                on_path[goal] = True
                path.append((goal, self.asked_for(goal)))
        return list(done)

    def asked_for(self, fact):
        """The list of the facts that the ways of a fact need, each once."""
        return list({goal: True for _, goals in self.ways[fact] for goal in goals})


def product_of(numbers):
    """The product of numbers."""
    found = 1
    for number in numbers:
        found = found * number
    return found
