"""Why equations can't be solved: steps from them to unlike heads, or round to an unknown within itself."""

from proofsizes.terms import is_compound, is_unknown, parts_of


class Merger:
    """Terms, each with a number, in classes of those that equations make the same.

    A class has a leader and, if it has one, a form: a term of it that is no unknown.
    Links, as edges with reasons, join the terms of a class into a tree, so there is
    one way between any two of them, and it stays when classes are merged.
    """

    def __init__(self):
        self.numbers = {}
        self.heads = []
        self.inner = []
        self.leaders = []
        self.forms = []
        self.links = []
        self.edges = []

    def number_of(self, term):
        """The number of a term; terms that are the same have one number."""
        built = []
        for part in reversed(parts_of(term)):
            if is_compound(part):
                many = len(part[1])
                inner = tuple(built[-many:][::-1])
                del built[-many:]
                built.append(self.number_for((part[0], inner), (part[0], many), inner))
            elif is_unknown(part):
                built.append(self.number_for(part, None, ()))
            else:
                built.append(self.number_for(("", part), ("", part), ()))
        return built[0]

    def number_for(self, key, head, inner):
        """The number of what a key tells, a new one if there is none yet."""
        if key not in self.numbers:
            number = len(self.heads)
            self.numbers[key] = number
            self.heads.append(head)
            self.inner.append(inner)
            self.leaders.append(number)
            self.forms.append(None if head is None else number)
            self.links.append([])
        return self.numbers[key]

    def leader(self, number):
        """The leader of a term's class."""
        while self.leaders[number] != number:
            self.leaders[number] = self.leaders[self.leaders[number]]
            number = self.leaders[number]
        return number

    def merge(self, pairs):
        """Makes pairs the same, and what that asks; two terms with unlike heads if it comes to such, or None."""
        waiting = []
        for place, (one, other) in enumerate(pairs):
            waiting.append((self.number_of(one), self.number_of(other), ("given", place)))
        at = 0
        while at < len(waiting):
            one, other, reason = waiting[at]
            at += 1
            if self.leader(one) != self.leader(other):
                forms = self.link(one, other, reason)
                if forms is not None and self.heads[forms[0]] != self.heads[forms[1]]:
                    return forms
                waiting.extend(self.asked_inside(forms))
        return None

    def link(self, one, other, reason):
        """Makes two classes one; the forms of both, None if one has none."""
        low, high = self.leader(one), self.leader(other)
        self.links[one].append((other, len(self.edges)))
        self.links[other].append((one, len(self.edges)))
        self.edges.append((one, other, reason))
        first, second = self.forms[low], self.forms[high]
        self.leaders[high] = low
        if first is None:
            self.forms[low] = second
        return None if first is None or second is None else (first, second)

    def asked_inside(self, forms):
        """What two forms with like heads ask of their parts."""
        if forms is None:
            return []
        first, second = forms
        both = list(zip(self.inner[first], self.inner[second]))
        return [(one, other, ("part", first, second, at)) for at, (one, other) in enumerate(both)]

    def path(self, one, other):
        """The edges between two terms of a class, each with whether it is gone forward."""
        came = {one: None}
        waiting = [one]
        while other not in came:
            at = waiting.pop()
            for number, edge in self.links[at]:
                if number not in came:
                    came[number] = (at, edge)
                    waiting.append(number)
        found = []
        while other != one:
            at, edge = came[other]
            found.append((edge, self.edges[edge][0] == at))
            other = at
        return found[::-1]

    def parts_within(self, leader):
        """The parts of a class's form."""
        form = self.forms[leader]
        return () if form is None else self.inner[form]

    def circle(self):
        """Classes with numbers of parts of their forms that lead from each to the next, and round; or []."""
        done = {}
        for number in range(len(self.heads)):
            found = self.circle_from(self.leader(number), done)
            if found:
                return found
        return []

    def circle_from(self, start, done):
        """Such classes that can be reached from one; notes those behind which there are none."""
        path = [] if start in done else [[start, 0]]
        places = {start: 0}
        while path:
            leader, at = path[-1]
            inner = self.parts_within(leader)
            if at == len(inner):
                done[leader] = True
                del places[leader]
                path.pop()
                continue
            path[-1][1] += 1
            following = self.leader(inner[at])
            if following in places:
                return [(one, behind - 1) for one, behind in path[places[following]:]]
            if following not in done:
                places[following] = len(path)
                path.append([following, 0])
        return []

    def ring_in(self, circle):
        """Pairs of an unknown and its form, in which the next pair's unknown stands, and round."""
        pairs = []
        places = {}
        at = 0
        term = self.forms[circle[0][0]]
        while True:
            leader, place = circle[at]
            if self.heads[term] is None:
                if term in places:
                    return pairs[places[term]:]
                places[term] = len(pairs)
                pairs.append((term, self.forms[leader]))
                term = self.forms[leader]
            term = self.inner[term][place]
            at = (at + 1) % len(circle)


class Paper:
    """The steps that lead to what a Merger found, none that isn't needed."""

    def __init__(self, merger):
        self.merger = merger
        self.steps = []
        self.known = {}
        self.turned = {}

    def prepare(self, pairs):
        """Writes the steps for all edges between pairs of terms of one class."""
        for edge in self.needed_edges(pairs):
            reason = self.merger.edges[edge][2]
            if reason[0] == "part":
                reason = ("part", self.step_for(reason[1], reason[2]), reason[3])
            self.known[edge] = self.write(reason)

    def needed_edges(self, pairs):
        """The edges between pairs of terms, and those for their reasons, as they were made."""
        needed = {}
        waiting = list(pairs)
        while waiting:
            one, other = waiting.pop()
            for edge, _ in self.merger.path(one, other):
                if edge not in needed:
                    needed[edge] = True
                    reason = self.merger.edges[edge][2]
                    if reason[0] == "part":
                        waiting.append((reason[1], reason[2]))
        return sorted(needed)

    def write(self, step):
        """Writes a step; its number."""
        self.steps.append(step)
        return len(self.steps) - 1

    def turn(self, number):
        """The number of a step, turned round."""
        if number not in self.turned:
            self.turned[number] = self.write(("turned", number))
        return self.turned[number]

    def step_for(self, one, other):
        """The number of a step to the equation of two terms, whose edges have their steps."""
        last = None
        for edge, is_forward in self.merger.path(one, other):
            number = self.known[edge] if is_forward else self.turn(self.known[edge])
            last = number if last is None else self.write(("joined", last, number))
        return last


def refuted(pairs):
    """The steps and the ring of an Unsolved of pairs that can't be the same."""
    merger = Merger()
    clash = merger.merge(pairs)
    ending = merger.ring_in(merger.circle()) if clash is None else [clash]
    paper = Paper(merger)
    paper.prepare(ending)
    numbers = [paper.step_for(one, other) for one, other in ending]
    return tuple(paper.steps), () if clash is not None else tuple(numbers)
