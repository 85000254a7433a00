"""Random shallow programs and sets of terms, and slow ways to what they tell, for several tests."""

import itertools

from proofsizes.programs import Program, Rule
from proofsizes.regular import TermSet
from proofsizes.terms import is_compound, names_in, parts_of
from tests.plain import matched, terms_key
from tests.samples import X, Y, Z, wrapped

NAMES = "pqrs"
EVEN = Program(
    [
        Rule(("even", (0,)), []),
        Rule(("odd", (wrapped(1, X),)), [("even", (X,))]),
        Rule(("even", (wrapped(1, X),)), [("odd", (X,))]),
        Rule(("nat", (X,)), [("even", (X,))]),
        Rule(("nat", (X,)), [("odd", (X,))]),
    ]
)


def random_shallow(source, most=8):
    """A shallow program; some goals are of an unknown that isn't in the head."""
    rules = []
    for _ in range(source.randrange(2, most + 1)):
        chance = source.random()
        if chance < 0.3:
            head, inner = source.choice(["a", "b", 0]), []
        elif chance < 0.45:
            head, inner = X, [X]
        elif chance < 0.75:
            head, inner = ("f", (X,)), [X]
        else:
            head, inner = ("g", (X, Y)), [X, Y]
        unknowns = inner * 3 + [Z]
        goals = [(source.choice(NAMES), (source.choice(unknowns),)) for _ in range(source.choice([0, 0, 1, 1, 2]))]
        rules.append(Rule((source.choice(NAMES), (head,)), goals))
    return Program(rules)


def terms_by_signs(constants, compounds, most):
    """For each number of signs up to most the list of all ground terms of some constants and compounds."""
    rows = [[], list(constants)]
    for signs in range(2, most + 1):
        row = []
        for name, many in compounds:
            for split in itertools.product(range(1, signs), repeat=many):
                if sum(split) == signs - 1:
                    row.extend((name, inner) for inner in itertools.product(*[rows[one] for one in split]))
        rows.append(row)
    return rows


ALL_ROWS = terms_by_signs(["a", "b", 0, "zz"], [("f", 1), ("g", 2), ("h", 1)], 6)
ALL_TERMS = [term for row in ALL_ROWS for term in row]


def slow_types(program, terms):
    """For each of some terms, which hold all that stands in them, the set of the relations that hold of it."""
    found = {term: set() for term in terms}
    before = -1
    while sum(len(names) for names in found.values()) > before:
        before = sum(len(names) for names in found.values())
        for rule in program.rules:
            head = rule.head[1][0]
            asked = {}
            for name, (unknown,) in rule.goals:
                asked.setdefault(unknown[1], set()).add(name)
            elsewhere = [asked[name] for name in asked if name not in names_in([head])]
            if all(any(names <= met for met in found.values()) for names in elsewhere):
                for term in terms:
                    worth = matched([head], [term], {})
                    if worth is not None and all(asked.get(name, set()) <= found[worth[name]] for name in worth):
                        found[term].add(rule.head[0])
    return found


def spoken_of(program):
    """The constants and the compounds of which a program speaks, ascending."""
    heads = [rule.head[1][0] for rule in program.rules]
    constants = {head for head in heads if not isinstance(head, tuple)}
    compounds = {(head[0], len(head[1])) for head in heads if is_compound(head)}
    return sorted(constants, key=lambda constant: terms_key([constant])), sorted(compounds)


def order_of(term):
    """By this terms ascend by signs, then in the order of terms."""
    return len(parts_of(term)), terms_key([term])


def random_set(source, most=4):
    """A set of terms by up to so many states, of some of a few constants and compounds."""
    many = source.randrange(1, most + 1)
    constants = {one: source.randrange(many) for one in ["a", "b", 0] if source.random() < 0.6}
    compounds = {}
    for name, parts in (("f", 1), ("g", 2)):
        if source.random() < 0.7:
            rows = itertools.product(range(many), repeat=parts)
            compounds[name, parts] = {row: source.randrange(many) for row in rows}
    good = [state for state in range(many) if source.random() < 0.5]
    return TermSet(many, constants, compounds, source.randrange(many), good)
