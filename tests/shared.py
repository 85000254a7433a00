"""Terms and proofs that are far larger than their unlike parts, made anew at each call."""

from proofsizes.proofs import answer_of
from proofsizes.texts import read_program, read_question

DOUBLES = read_program("d(0, a). d(s(?n), f(?t, ?t)) if d(?n, ?t).")
TWO = read_program("d(0, ?x). d(s(?n), f(?t, ?t)) if d(?n, ?t). e(0, a). e(s(?n), f(?t, ?t)) if e(?n, ?t).")
ASK_D = read_question("ask ?t if d(?n, ?t).")
ASK_E = read_question("ask ?t if e(?n, ?t).")


def shared(levels, end, parts=2):
    """A term around another one, so many times, each time with the same one in all of its places."""
    term = end
    for _ in range(levels):
        term = ("f", (term,) * parts)
    return term


def spoilt(levels, end, other, way):
    """The same, with another end behind a way, a text of the figures of places from above."""
    term, apart = end, other
    for figure in way[::-1]:
        row = [term, term]
        row[int(figure)] = apart
        term, apart = ("f", (term, term)), ("f", tuple(row))
    for _ in range(levels - len(way)):
        apart = ("f", (apart, apart))
    return apart


def parted(levels, end):
    """The same as shared, with no part in two places."""
    return ("f", (parted(levels - 1, end), parted(levels - 1, end))) if levels else end


def numbers_chained(many, last, step):
    """Proofs of so many rules, each within the one ahead."""
    tree = (last, ())
    for _ in range(many - 1):
        tree = (step, (tree,))
    return (tree,)


def answer_d(size):
    """The answer of d, with an unknown at the ends."""
    return answer_of(TWO, ASK_D, numbers_chained(size, 0, 1))


def answer_e(size):
    """The answer of e, with a at the ends."""
    return answer_of(TWO, ASK_E, numbers_chained(size, 2, 3))


def depth(term):
    """How many terms stand within one another in a shared one, by its first parts."""
    many = 1
    while isinstance(term, tuple) and term[0] != "?":
        term, many = term[1][0], many + 1
    return many, term
