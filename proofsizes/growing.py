"""The told list where sizes may be as great as they like: goals and answers are gone on with by sizes.

A goal that comes up, up to names of unknowns, has a size ahead of it: the least that proofs of the question
have without its own. With its answers' sizes this makes the sizes by which all is gone on with, the least
first. So sizes of which nothing comes take no time, and it ends when nothing is left to come.
"""

from heapq import heappop, heappush

from proofsizes.answers import ascending_answers, unlike_answers
from proofsizes.bindings import Bindings
from proofsizes.covering import MOST_WAYS, is_inside, judge_covered
from proofsizes.meeting import resolved_answer, resolved_rows
from proofsizes.nodes import names_in, numbered, put_in, put_in_pairs, unknown_node
from proofsizes.opening import is_soon_spent
from proofsizes.shelves import Shelf
from proofsizes.terms import sides_of
from proofsizes.ways import Ways


class Telling:
    """The told list, size by size.

    If answers of smaller sizes stand for those that they cover, it can't be told where covering may be too large.
    """

    def __init__(self, is_short):
        self.is_short = is_short
        self.told = []
        self.answers = []
        self.ways = 1

    def is_in_doubt(self):
        """Whether an answer that is left out might have been too large to be covered."""
        return self.is_short and self.ways > MOST_WAYS

    def tell(self, size, answers):
        """Tells those answers of a size that are not covered."""
        for answer in ascending_answers(unlike_answers(answers)):
            if not self.is_in_doubt() and not judge_covered(answer, self.answers):
                self.told.append((size, answer))
                self.answers.append(answer)
                self.ways = self.ways * (len(answer.form.rows) + 1)

    def all_told(self):
        """The list of pairs of a size and an answer; None if it can't be told."""
        return None if self.is_in_doubt() else self.told


class Waiting:
    """A rule for a goal, or the question, with answers for some of its goals: it waits for those of the next one."""

    def __init__(self, source, size, terms, goals, unlikes):
        self.source = source
        self.size = size
        self.terms = terms
        self.goals = goals
        self.unlikes = unlikes

    def behind(self, size, answer):
        """The same behind an answer for the unknowns of the next goal; None if what is asked can't be so."""
        return self.joined([unknown_node(name) for name in names_in(self.goals[0][1])], size, answer)

    def joined(self, sides, size, answer):
        """The same behind the next goal, if terms are an answer's; None if what is asked can't be so."""
        form = answer.form
        standing = self.terms + [node for _, nodes in self.goals for node in nodes]
        first = 1 + max([-1] + names_in(standing + [node for pairs in self.unlikes for node in sides_of(pairs)]))
        worth = numbered(names_in(form.terms), first)
        bindings = Bindings()
        if not bindings.make_same(list(zip(sides, put_in(form.terms, worth)))):
            return None
        unlikes = bindings.pending(self.unlikes + [put_in_pairs(row, worth) for row in form.rows])
        if unlikes is None:
            return None
        return settled(bindings, self.source, self.size + size, self.terms, self.goals[1:], unlikes)

    def comes_to(self):
        """The answer that comes of it without goals."""
        return resolved_answer(Bindings(), self.terms, self.unlikes)


def settled(bindings, source, size, terms, goals, unlikes):
    """A Waiting with all that is bound put in."""
    inner = [node for _, nodes in goals for node in nodes]
    found, rows = resolved_rows(bindings, list(terms) + inner, unlikes)
    left = []
    at = len(terms)
    for relation, nodes in goals:
        left.append((relation, found[at:at + len(nodes)]))
        at += len(nodes)
    return Waiting(source, size, found[:len(terms)], left, rows)


class Source:
    """A goal up to names of unknowns, or the question: its answers by size, and what waits for them."""

    def __init__(self, terms, readies, own):
        self.terms = terms
        self.readies = readies
        self.own = own
        self.ahead = None
        self.is_begun = False
        self.found = []
        self.known = {}
        self.general = []
        self.users = []

    def started(self):
        """The list of its rules, or the question, without answers for their goals."""
        found = []
        for ready in self.readies:
            names = names_in(self.terms)
            used = ready.with_unknowns(len(names))
            own = used.head_terms()
            bindings = Bindings()
            pairs = list(zip(own, self.terms)) if self.own else []
            unlikes = None
            if bindings.make_same(pairs + used.pairs_equal()):
                unlikes = bindings.pending(used.pairs_unlike())
            if unlikes is not None:
                terms = [unknown_node(at) for at in range(len(names))] if self.own else own
                found.append(settled(bindings, self, self.own, terms, used.goals_asked(), unlikes))
        return found

    def takes(self, size, key, answer, is_short):
        """Notes an answer, if it is to be gone on with; answers come by their sizes."""
        if self.known.get(key) == size or is_short and self.is_covered(key, size, answer):
            return False
        self.known[key] = size
        if names_in(answer.form.terms):
            self.general.append((size, answer))
        self.found.append((size, answer))
        return True

    def is_covered(self, key, size, answer):
        """Whether an answer of a smaller size has all instances of an answer."""
        if key in self.known:
            return True
        return any([less < size and is_inside(answer, other) for less, other in self.general])


class Growing:
    """Goals that are to be begun, and answers that are to be gone on with, the least size first."""

    def __init__(self, program, question, most, is_short):
        ways = Ways(program, question)
        self.rules = ways.rules
        self.numbers = ways.numbers
        self.most = most
        self.is_short = is_short
        self.shelf = Shelf()
        self.sources = {}
        self.coming = []
        self.noted = []
        self.question = Source([], [ways.question], 0)
        self.demand(self.question, 0)

    def next_size(self):
        """The least size that proofs of the question come to by what is next; None if that is none up to the most."""
        return self.coming[0][0] if self.coming and self.coming[0][0] <= self.most else None

    def note(self, size, source, key, answer):
        """Notes what is to be done when it is the turn of a size."""
        heappush(self.coming, (size, len(self.noted)))
        self.noted.append((source, key, answer))

    def demand(self, source, ahead):
        """Notes that a goal is to be begun, if that wasn't noted with a size ahead that is as small."""
        if source.ahead is None or not source.is_begun and ahead < source.ahead:
            source.ahead = ahead
            self.note(ahead, source, None, None)

    def step(self):
        """Does what is next: begins a goal, or goes on with an answer."""
        size, at = heappop(self.coming)
        source, key, answer = self.noted[at]
        if answer is None:
            if not source.is_begun:
                source.is_begun = True
                self.go_on(source.started())
        else:
            own = size - source.ahead
            if source.takes(own, key, answer, self.is_short):
                behind = [one.behind(own, answer) for one in source.users]
                self.go_on([one for one in behind if one is not None])

    def go_on(self, waiting):
        """Lets all of a list wait for what it asks; what has no goals left is an answer."""
        while waiting:
            one = waiting.pop()
            size = one.source.ahead + one.size
            if not one.goals:
                answer = one.comes_to()
                key = self.shelf.key_of(answer.form)
                if not self.is_short or key not in one.source.known:
                    self.note(size, one.source, key, answer)
            elif size + len(one.goals) <= self.most:
                source = self.source_for(one.goals[0])
                self.demand(source, size)
                source.users.append(one)
                behind = [one.behind(many, answer) for many, answer in source.found]
                waiting.extend([other for other in behind if other is not None])

    def source_for(self, goal):
        """The source of a goal."""
        nodes = self.shelf.copies_of(put_in(goal[1], numbered(names_in(goal[1]), 0)))
        key = (goal[0], tuple(nodes))
        if key not in self.sources:
            self.sources[key] = Source(nodes, [self.rules[number] for number in self.numbers.get(goal[0], [])], 1)
        return self.sources[key]

    def most_rules(self, levels):
        """A number that no proofs of the question with at most so many levels have more rules than."""
        most = {}
        before = None
        done = 0
        while done < levels and before != most:
            before = most
            most = {}
            for relation in self.numbers:
                sums = [sum_of(self.rules[number].asked, before) for number in self.numbers[relation]]
                if max(sums) >= 0:
                    most[relation] = 1 + max(sums)
            done += 1
        return max(0, sum_of(self.question.readies[0].asked, most))


def sum_of(asked, most):
    """The sum of what a dict tells of the relations of goals; -1 if it doesn't tell of one."""
    if not all([relation in most for relation, _ in asked]):
        return -1
    return sum([most[relation] for relation, _ in asked])


def told_by_sizes(program, question, most):
    """The list of pairs of a size and an answer of the told list for sizes up to most, however great that is."""
    told = told_growing(program, question, Growing(program, question, most, True))
    if told is None:
        # Where covering may be too large, all answers are to be asked in turn, as the told list asks them.
        told = told_growing(program, question, Growing(program, question, most, False))
    return told


def told_growing(program, question, growing):
    """The told list; None if some answers are left out, and covering may be too large."""
    telling = Telling(growing.is_short)
    found = growing.question.found
    levels = 1
    done = 0
    while growing.next_size() is not None and not telling.is_in_doubt():
        if growing.next_size() > levels:
            # Goals by themselves may have ever more proofs, though the question has none behind some levels.
            if is_soon_spent(program, question, levels):
                growing.most = min(growing.most, growing.most_rules(levels))
            levels = 2 * levels
            continue
        growing.step()
        after = growing.next_size()
        while done < len(found) and (after is None or found[done][0] < after):
            row = [answer for size, answer in found[done:] if size == found[done][0]]
            telling.tell(found[done][0], row)
            done += len(row)
    return telling.all_told()
