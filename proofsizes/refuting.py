"""Why equations can't be solved: steps from them to unlike heads, or round to an unknown within itself."""

from proofsizes.linking import Linked, Paper


class Merger(Linked):
    """Terms in classes of those that equations make the same; a class's form is a term of it that is no unknown."""

    def __init__(self):
        Linked.__init__(self)
        self.forms = {}

    def merge(self, pairs):
        """Makes pairs the same, and what that asks; two terms with unlike heads if it comes to such, or None."""
        waiting = []
        for place, (one, other) in enumerate(pairs):
            waiting.append((self.number_of(one), self.number_of(other), ("given", (), place)))
        at = 0
        while at < len(waiting):
            one, other, reason = waiting[at]
            at += 1
            if self.leader(one) != self.leader(other):
                forms = self.link(one, other, reason)
                if forms is not None and self.heads[forms[0]] != self.heads[forms[1]]:
                    return forms
                waiting.extend(self.asked_inside(forms))
        return None

    def link(self, one, other, reason):
        """Makes two classes one; the forms of both, None if one has none."""
        first, second = self.form_of(self.leader(one)), self.form_of(self.leader(other))
        self.tie(one, other, reason)
        if first is None:
            self.forms[self.leader(one)] = second
        return None if first is None or second is None else (first, second)

    def form_of(self, leader):
        """The form of the class with a leader; None if it has none."""
        return self.forms.get(leader, None if self.heads[leader] is None else leader)

    def asked_inside(self, forms):
        """What two forms with like heads ask of their parts."""
        if forms is None:
            return []
        first, second = forms
        both = list(zip(self.inner[first], self.inner[second]))
        return [(one, other, ("part", ((first, second),), at)) for at, (one, other) in enumerate(both)]

    def parts_within(self, leader):
        """The parts of a class's form."""
        form = self.form_of(leader)
        return () if form is None else self.inner[form]

    def circle(self):
        """Classes with numbers of parts of their forms that lead from each to the next, and round; or []."""
        done = {}
        for number in range(len(self.heads)):
            found = self.circle_from(self.leader(number), done)
            if found:
                return found
        return []

    def circle_from(self, start, done):
        """Such classes that can be reached from one; notes those behind which there are none."""
        path = [] if start in done else [[start, 0]]
        places = {start: 0}
        while path:
            leader, at = path[-1]
            inner = self.parts_within(leader)
            if at == len(inner):
                done[leader] = True
                del places[leader]
                path.pop()
                continue
            path[-1][1] += 1
            following = self.leader(inner[at])
            if following in places:
                return [(one, behind - 1) for one, behind in path[places[following]:]]
            if following not in done:
                places[following] = len(path)
                path.append([following, 0])
        return []

    def ring_in(self, circle):
        """Pairs of an unknown and its form, in which the next pair's unknown stands, and round."""
        pairs = []
        places = {}
        at = 0
        term = self.form_of(circle[0][0])
        while True:
            leader, place = circle[at]
            if self.heads[term] is None:
                if term in places:
                    return pairs[places[term]:]
                places[term] = len(pairs)
                pairs.append((term, self.form_of(leader)))
                term = self.form_of(leader)
            term = self.inner[term][place]
            at = (at + 1) % len(circle)


def refuted(pairs):
    """The steps and the ring of an Unsolved of pairs that can't be the same."""
    merger = Merger()
    clash = merger.merge(pairs)
    ending = merger.ring_in(merger.circle()) if clash is None else [clash]
    paper = Paper(merger)
    paper.prepare(ending)
    numbers = [paper.step_for(one, other) for one, other in ending]
    return tuple(paper.steps), () if clash is not None else tuple(numbers)
