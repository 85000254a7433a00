"""Terms, programs and slow ways to the same answers, for several tests."""

import itertools

from proofsizes.answers import Answer
from proofsizes.errors import BadAnswer
from proofsizes.programs import Program, Question, Rule
from proofsizes.terms import names_in
from tests.plain import Binding, put_in

X, Y, Z, W = ("?", "x"), ("?", "y"), ("?", "z"), ("?", "w")
OWN = ("equal", "unlike")


def wrapped(many, term, name="s"):
    """A term within so many compounds of one part."""
    for _ in range(many):
        term = (name, (term,))
    return term


def row_of(things):
    """The row of things that the document's example joins."""
    term = "none"
    for thing in reversed(things):
        term = ("row", (thing, term))
    return term


JOINED = Program(
    [
        Rule(("joined", ("none", Y, Y)), []),
        Rule(("joined", (("row", ("a", X)), Y, ("row", ("a", Z)))), [("joined", (X, Y, Z))]),
    ]
)
SPLIT = Question([X, Y], [("joined", (X, Y, row_of(["a", "a"])))])
COUNTS = Program([Rule(("count", (0,)), []), Rule(("count", (wrapped(1, X),)), [("count", (X,))])])
ALL_COUNTS = Question([X], [("count", (X,))])


def random_term(random, depth, names, constants=("a", "b")):
    if depth == 0 or random.random() < 0.7:
        return random.choice(list(constants) + [("?", name) for name in names] * 2)
    parts = tuple(random_term(random, depth - 1, names, constants) for _ in range(random.choice([1, 1, 2])))
    return ("f", parts)


def random_goal(random, names, is_own_let=True):
    chance = random.random()
    if is_own_let and chance < 0.3:
        name = "equal" if chance < 0.1 else "unlike"
        return (name, (random_term(random, 1, names), random_term(random, 1, names)))
    name, many = random.choice([("p", 1), ("q", 2)])
    return (name, tuple(random_term(random, 1, names) for _ in range(many)))


def random_program(random):
    rules = []
    for _ in range(random.randrange(3, 6)):
        names = ["x", "y", "z"][: random.randrange(1, 4)]
        goals = [random_goal(random, names) for _ in range(random.choice([0, 0, 1, 1, 2]))]
        rules.append(Rule(random_goal(random, names, False), goals))
    return Program(rules)


def random_question(random):
    names = ["x", "y"]
    terms = [random_term(random, 1, names) for _ in range(random.randrange(0, 3))]
    return Question(terms, [random_goal(random, names) for _ in range(random.choice([0, 1, 1, 2, 2]))])


def tagged(goal, tag):
    """A goal whose unknowns have names of their own."""
    worth = {name: ("?", tag + str(name)) for name in names_in(goal[1])}
    return (goal[0], tuple(put_in(term, worth) for term in goal[1]))


def parted(goals):
    """The relation goals, the equations and the inequations of goals."""
    relations = [goal for goal in goals if goal[0] not in OWN]
    equations = [goal[1] for goal in goals if goal[0] == "equal"]
    return relations, equations, [[goal[1]] for goal in goals if goal[0] == "unlike"]


def can_be(equations, inequations):
    binding = Binding()
    return binding.make_same(equations) and not any(binding.always_fails(pairs) for pairs in inequations)


def relation(goal):
    return goal[0], len(goal[1])


def slow_trees(program, wanted, size, known):
    """All trees of a size for a relation, whether what they ask can be so or not."""
    if (wanted, size) not in known:
        found = []
        for number, rule in enumerate(program.rules):
            if size > 0 and relation(rule.head) == wanted:
                asked = [relation(goal) for goal in parted(rule.goals)[0]]
                found.extend((number, trees) for trees in slow_forests(program, asked, size - 1, known))
        known[wanted, size] = found
    return known[wanted, size]


def slow_forests(program, wanted, size, known):
    if not wanted:
        return [()] if size == 0 else []
    found = []
    for first in range(1, size + 1):
        for tree in slow_trees(program, wanted[0], first, known):
            for rest in slow_forests(program, wanted[1:], size - first, known):
                found.append((tree,) + rest)
    return found


def numbers_of(proofs):
    return [number for tree in proofs for number in [tree[0]] + numbers_of(tree[1])]


def asked_by_proofs(program, question, proofs):
    """The equations and the inequations that proofs ask of a question."""
    goals, equations, inequations = parted([tagged(goal, "q") for goal in question.goals])
    equations, inequations = list(equations), list(inequations)
    waiting = list(zip(goals, proofs))
    for count in itertools.count():
        if not waiting:
            return equations, inequations
        goal, (number, trees) = waiting.pop()
        rule = program.rules[number]
        tag = "r" + str(count) + "x"
        equations.extend(zip(goal[1], tagged(rule.head, tag)[1]))
        asked, more, unlike = parted([tagged(one, tag) for one in rule.goals])
        equations.extend(more)
        inequations.extend(unlike)
        waiting.extend(zip(asked, trees))


def slow_answer(program, question, proofs):
    """The answer of proofs, by all that they ask at once; None without any."""
    equations, inequations = asked_by_proofs(program, question, proofs)
    binding = Binding()
    if not binding.make_same(equations):
        return None
    asked = [tagged(("p", (term,)), "q")[1][0] for term in question.terms]
    rows = [[tuple(binding.resolved(pair)) for pair in pairs] for pairs in inequations]
    try:
        return Answer(binding.resolved(asked), rows)
    except BadAnswer as bad:
        assert bad.part == "empty"
        return None


def slow_levels(program, question, levels):
    """For 0 to so many levels: whether goals are open behind them; None if that takes too many ways."""
    goals, equations, inequations = parted([tagged(goal, "q") for goal in question.goals])
    ways = [(equations, inequations, goals)] if can_be(equations, inequations) else []
    found = [any(way[2] for way in ways)]
    count = itertools.count()
    for _ in range(levels):
        behind = []
        for equations, inequations, goals in ways:
            fitting = [[rule for rule in program.rules if relation(rule.head) == relation(goal)] for goal in goals]
            for rules in itertools.product(*fitting):
                more, unlike, asked = list(equations), list(inequations), []
                for goal, rule in zip(goals, rules):
                    tag = "r" + str(next(count)) + "x"
                    more.extend(zip(goal[1], tagged(rule.head, tag)[1]))
                    parts = parted([tagged(one, tag) for one in rule.goals])
                    asked.extend(parts[0])
                    more.extend(parts[1])
                    unlike.extend(parts[2])
                if can_be(more, unlike):
                    behind.append((more, unlike, asked))
            if len(behind) > 500:
                return None
        ways = behind
        found.append(any(way[2] for way in ways))
    return found
