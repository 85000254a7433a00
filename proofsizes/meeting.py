"""Answers together: what two have in common, some places of one, the least pattern of two."""

from proofsizes.answers import Answer, answer_to, is_row_of_answers
from proofsizes.bindings import Bindings
from proofsizes.errors import BadAnswer
from proofsizes.terms import have_like_heads, is_compound, is_number_below, is_row, is_unknown, matched
from proofsizes.terms import names_in, numbered, put_in_pairs, put_in_row, sides_of, terms_key


def meet(one, other):
    """The Answer with the instances of both; None if there are none."""
    check_both(one, other)
    worth = numbered(names_in(other.terms), len(names_in(one.terms)))
    bindings = Bindings()
    if not bindings.make_same(list(zip(one.terms, put_in_row(other.terms, worth)))):
        return None
    inequations = list(one.inequations) + [put_in_pairs(pairs, worth) for pairs in other.inequations]
    return resolved_answer(bindings, one.terms, inequations)


def check_both(one, other):
    """Raises BadAnswer for what aren't two Answers to as many terms."""
    if not is_row_of_answers([one, other]):
        raise BadAnswer("answers")


def resolved_answer(bindings, terms, inequations):
    """The Answer to terms and inequations with all that is bound put in; None without instances."""
    rows = []
    for pairs in inequations:
        sides = bindings.resolved(sides_of(pairs), {})
        rows.append(list(zip(sides[::2], sides[1::2])))
    return answer_to(bindings.resolved(terms, {}), rows)


def kept(answer, places):
    """The Answer to the terms with some places, in their order."""
    if not isinstance(answer, Answer):
        raise BadAnswer("answer")
    many = len(answer.terms)
    if not is_row(places) or not all([is_number_below(place, many) for place in places]):
        raise BadAnswer("places")
    return answer_to([answer.terms[place] for place in places], answer.inequations)


def least_pattern(one, other):
    """The Answer without inequations that has the instances of both, and no more than it must."""
    check_both(one, other)
    parts = paired_parts(one.terms, other.terms)
    known = {}
    built = []
    for first, second in reversed(parts):
        if is_compound(first) and have_like_heads(first, second):
            many = len(first[1])
            inner = tuple(built[-many:][::-1])
            del built[-many:]
            built.append((first[0], inner))
        elif is_unknown(first) or first != second:
            # The same two parts are the same wherever they stand.
            key = terms_key([first, second])
            built.append(known.setdefault(key, ("?", len(known))))
        else:
            built.append(first)
    return answer_to(built[::-1], ())


def paired_parts(terms, others):
    """All pairs of parts at one place of both rows, each ahead of those within it, as far as heads are alike."""
    found = []
    waiting = list(zip(terms, others))[::-1]
    while waiting:
        one, other = waiting.pop()
        found.append((one, other))
        if is_compound(one) and have_like_heads(one, other):
            waiting.extend(list(zip(one[1], other[1]))[::-1])
    return found


def is_pattern_of(pattern, answer):
    """Whether an answer's terms come of a pattern's by putting in terms for unknowns."""
    check_both(pattern, answer)
    return matched(pattern.terms, answer.terms, {}) is not None
