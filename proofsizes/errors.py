"""The errors that several modules raise."""


class RelationError(ValueError):
    """What all errors of this package are."""


class BadTerm(RelationError):
    """A row that is none, or the first of its things that isn't as described."""

    def __init__(self, place):
        self.place = place


class BadRule(RelationError):
    """What is wrong with a rule, or with the number of one."""

    def __init__(self, number, part):
        self.number = number
        self.part = part


class BadQuestion(RelationError):
    """What is wrong with a question, or with what is asked about one."""

    def __init__(self, part):
        self.part = part


class BadAnswer(RelationError):
    """What is wrong with an answer, or with a row of answers."""

    def __init__(self, part):
        self.part = part


class TooLarge(RelationError):
    """A number that is above what is worked out."""

    def __init__(self, number):
        self.number = number
