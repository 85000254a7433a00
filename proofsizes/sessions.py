"""Desks: a program and a question that change step by step, what is told of them, and the way back."""

from proofsizes.errors import BadRule, RelationError
from proofsizes.programs import Program
from proofsizes.proofs import numbers_in
from proofsizes.searching import answered, told_at
from proofsizes.shelves import Shelf
from proofsizes.terms import is_number_below


class NoStep(RelationError):
    """There is no step to be taken back, or no question to go on with."""


class Desk:
    """A program, a question, and the told list of it up to a size."""

    def __init__(self, program):
        self.program = program
        self.question = None
        self.size = -1
        self.told = ()
        self.past = []

    def ask(self, question):
        """Begins a question anew."""
        self.keep()
        self.question = question
        self.size = -1
        self.told = ()

    def more(self):
        """Goes on to the next size; the list of what is told newly."""
        if self.question is None:
            raise NoStep()
        new = told_at(self.program, self.question, self.size + 1, self.told)
        self.keep()
        self.size += 1
        self.told = self.told + tuple(new)
        return new

    def put(self, rule):
        """Puts a rule behind all others; the list of what is told now and was not told ahead."""
        return self.turn_to(Program(self.program.rules + (rule,)))[0]

    def take(self, number):
        """Takes a rule away; the list of what was told and is told no more."""
        self.check_number(number)
        return self.turn_to(Program(self.program.rules[:number] + self.program.rules[number + 1:]))[1]

    def turn_to(self, program):
        """Takes another program for this one; the list of what is told newly, and of what is told no more."""
        told = ()
        if self.size >= 0:
            told = tuple(answered(program, self.question, self.size))
        new, gone = unlike_told(told, self.told), unlike_told(self.told, told)
        self.keep()
        self.program = program
        self.told = told
        return new, gone

    def uses(self, number):
        """How often a rule stands in the proofs of what is told."""
        self.check_number(number)
        return sum([numbers_in(one.proofs).count(number) for one in self.told])

    def undo(self):
        """Takes back the last step that was not taken back."""
        if not self.past:
            raise NoStep()
        self.program, self.question, self.size, self.told = self.past.pop()

    def keep(self):
        """Notes all as it is, ahead of a step."""
        self.past.append((self.program, self.question, self.size, self.told))

    def check_number(self, number):
        """Raises BadRule for what is no number of a rule."""
        if not is_number_below(number, len(self.program.rules)):
            raise BadRule(number, "number")


def unlike_told(told, others):
    """The list of what is told whose answers others don't have."""
    shelf = Shelf()
    known = {shelf.key_of(one.answer.form): True for one in others}
    return [one for one in told if shelf.key_of(one.answer.form) not in known]
