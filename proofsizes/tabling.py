"""The told list by tables: each goal that comes up, up to names of unknowns, is gone through once for a size."""

from proofsizes.bindings import Bindings
from proofsizes.covering import is_inside
from proofsizes.finding import MOST_IN_TURN, Sizes
from proofsizes.forward import Stage
from proofsizes.growing import Telling, told_by_sizes
from proofsizes.meeting import resolved_answer
from proofsizes.nodes import names_in, numbered, put_in, put_in_pairs, unknown_node
from proofsizes.programs import check_count
from proofsizes.shelves import Shelf
from proofsizes.ways import Ways


def tabled(program, question, most):
    """The list of pairs of a size and an answer of the told list for sizes up to most."""
    check_count(most, "size")
    if most > MOST_IN_TURN:
        return told_by_sizes(program, question, most)
    told = told_by(Tables(program, question, most, True), most)
    if told is None:
        # Where covering may be too large, all answers are to be asked in turn, as the told list asks them.
        told = told_by(Tables(program, question, most, False), most)
    return told


def told_by(tables, most):
    """The told list by some tables; None if some answers are left out, and covering may be too large."""
    telling = Telling(tables.is_short)
    for size in range(most + 1):
        telling.tell(size, tables.answers_of_size(size))
    return telling.all_told()


class Call:
    """A goal up to names of unknowns, and the answers for these by sizes, up to the size that is done.

    Its own part of a size is 1 for a goal, for the rule that is taken; 0 for a question.
    """

    def __init__(self, terms, readies, own):
        self.terms = terms
        self.readies = readies
        self.own = own
        self.done = own - 1
        self.entries = None
        self.rows = {}
        self.known = {}
        self.general = []

    def keep(self, size, found, is_short):
        """Keeps the answers of the next size; in short tables without those that one of smaller sizes covers."""
        kept = [key for key in found if not (is_short and self.is_covered(key, found[key]))]
        if kept:
            self.rows[size] = [found[key] for key in kept]
        for key in kept if is_short else []:
            self.known[key] = True
            if names_in(found[key].form.terms):
                self.general.append(found[key])
        self.done = size

    def is_covered(self, key, answer):
        """Whether an answer of a smaller size has all instances of an answer."""
        return key in self.known or any([is_inside(answer, other) for other in self.general])


class Tables:
    """The calls that come up for a question, with their answers.

    In short tables an answer is left out if one of smaller sizes covers it: what would come of
    it is covered then by what comes of that one, with a smaller size, and so is never told.
    """

    def __init__(self, program, question, most, is_short):
        ways = Ways(program, question)
        self.sizes = Sizes(ways, most)
        self.rules = ways.rules
        self.numbers = ways.numbers
        self.is_short = is_short
        self.shelf = Shelf()
        self.calls = {}
        self.first_call = Call([], [ways.question], 0)

    def answers_of_size(self, size):
        """The list of the unlike answers of proofs of a size; of short tables without those that are covered."""
        waiting = [(self.first_call, size)]
        while waiting:
            call, most = waiting[-1]
            if call.done >= most:
                waiting.pop()
            else:
                waiting.extend(self.gone_on(call))
        return self.first_call.rows.get(size, [])

    def call_for(self, relation, terms):
        """The call of a goal."""
        nodes = self.shelf.copies_of(put_in(terms, numbered(names_in(terms), 0)))
        key = (relation, tuple(nodes))
        if key not in self.calls:
            self.calls[key] = Call(nodes, [self.rules[number] for number in self.numbers.get(relation, [])], 1)
        return self.calls[key]

    def entries_of(self, call):
        """The rules that may be taken for a call, each with the call of its first goal, None without goals."""
        if call.entries is None:
            call.entries = []
            for ready in call.readies:
                trying = Trying(self, call, ready, 0)
                stage = trying.first()
                if stage is not None:
                    call.entries.append((ready, trying.call_at(stage)[0] if ready.asked else None))
        return call.entries

    def gone_on(self, call):
        """Goes through the next size of a call; or tells which calls must be done up to which sizes for that."""
        size = call.done + 1
        found = {}
        lacking = []
        for ready, first in self.entries_of(call):
            if self.may_have(call, ready, first, size):
                trying = Trying(self, call, ready, size - call.own)
                for answer in trying.made():
                    found[self.shelf.key_of(answer.form)] = answer
                lacking.extend(trying.lacking)
        if not lacking:
            call.keep(size, found, self.is_short)
        return lacking

    def may_have(self, call, ready, first, size):
        """Whether a rule may have answers of a size, as far as the sizes tell that its first goal has."""
        rest = size - call.own
        if not self.sizes.can_be([relation for relation, _ in ready.asked], rest):
            return False
        if first is None:
            return rest == 0
        most = rest - len(ready.asked) + 1
        if first.done < most:
            return True
        return most in first.rows if len(ready.asked) == 1 else any([one <= most for one in first.rows])


class Trying:
    """A rule for a call, or the question itself: answers of calls are taken for its goals, one after another."""

    def __init__(self, tables, call, ready, rest):
        names = names_in(call.terms)
        self.tables = tables
        self.rest = rest
        self.bindings = Bindings()
        self.used = ready.with_unknowns(len(names))
        self.asked = self.used.goals_asked()
        own = self.used.head_terms()
        self.heads = list(zip(own, call.terms)) if call.own else []
        self.terms = [unknown_node(at) for at in range(len(names))] if call.own else own
        self.fresh = len(names) + len(ready.names)
        self.lacking = []

    def made(self):
        """The answers of the size, as far as the calls that are asked for are done."""
        found = []
        waiting = []
        stage = self.first()
        while stage is not None or waiting:
            if stage is not None and stage.goals < len(self.asked):
                mark = self.bindings.mark()
                waiting.extend([(mark, stage, names, size, answer) for names, size, answer in self.choices(stage)])
            elif stage is not None and stage.rest == 0:
                found.append(resolved_answer(self.bindings, self.terms, stage.unlikes))
            stage = None
            if waiting:
                mark, before, names, size, answer = waiting.pop()
                self.bindings.undo(mark)
                stage = self.behind(before, names, size, answer)
        return found

    def first(self):
        """The stage without answers; None if the head can't be the same, or own goals can't be so."""
        if not self.bindings.make_same(self.heads + self.used.pairs_equal()):
            return None
        unlikes = self.bindings.pending(self.used.pairs_unlike())
        return None if unlikes is None else Stage(0, self.rest, self.fresh, unlikes)

    def call_at(self, stage):
        """The call of the next goal, and the names of the unknowns for which it has answers."""
        relation, terms = self.asked[stage.goals]
        terms = self.bindings.resolved(terms, {})
        return self.tables.call_for(relation, terms), names_in(terms)

    def choices(self, stage):
        """The answers that may be taken for the next goal, with its unknowns' names and their sizes."""
        later = [relation for relation, _ in self.asked[stage.goals + 1:]]
        if not self.tables.sizes.can_be([self.asked[stage.goals][0]] + later, stage.rest):
            return []
        call, names = self.call_at(stage)
        most = stage.rest - len(later)
        if call.done < most:
            self.lacking.append((call, most))
            return []
        sizes = [size for size in call.rows if size <= most] if later else [most]
        fitting = [size for size in sizes if self.tables.sizes.can_be(later, stage.rest - size)]
        return [(names, size, answer) for size in fitting for answer in call.rows.get(size, [])]

    def behind(self, stage, names, size, answer):
        """The stage behind an answer that is taken for the next goal; None if what is asked can't be so."""
        form = answer.form
        inner = names_in(form.terms)
        worth = numbered(inner, stage.fresh)
        pairs = [(unknown_node(name), node) for name, node in zip(names, put_in(form.terms, worth))]
        if not self.bindings.make_same(pairs):
            return None
        unlikes = self.bindings.pending(stage.unlikes + [put_in_pairs(row, worth) for row in form.rows])
        if unlikes is None:
            return None
        return Stage(stage.goals + 1, stage.rest - size, stage.fresh + len(inner), unlikes)
