"""Evidence with other things in the places of what it is made of."""

from proofsizes import uniform
from proofsizes.answers import Answer
from proofsizes.closed import AllMet, Signature, Unmet
from proofsizes.congruence import Apart, Equal
from proofsizes.covering import Covered, Outside
from proofsizes.differing import OnlyOne, SameTerms
from proofsizes.flat import Held
from proofsizes.following import Against, Follows
from proofsizes.gaps import Placed, Round
from proofsizes.models import Model
from proofsizes.patterns import AllIn, NotIn
from proofsizes.programs import Program, Question, Rule
from proofsizes.regular import Fewest, InOne, SameSet, TermSet
from proofsizes.searching import Answered, Spent, StillOpen
from proofsizes.sessions import Desk
from proofsizes.shallow import Has
from proofsizes.solving import Solved, Unsolved
from proofsizes.stores import NoValues, Valued
from proofsizes.strata import Barred, Ringed, Strata
from proofsizes.streams import Came
from proofsizes.unfolding import Needless, Unfolded

# Nothing of this is a term, a name, a number, a step, a tree or the like.
WRONG = [
    None, True, False, "", "A", "a b", "ninesigns", (None,), (True, ()), (False, ()), ("?", True), ("?", -1),
    ("f", ()), ("f", (True,)), ("f", ["a"]), ("given", True), ("given", None), ("joined", 0, None),
    ((),), (((),),), (0, (None,)), (0, ((True, ()),)), Spent(0), StillOpen(1), Covered(), Outside(("a",)),
    Solved({}), Unsolved((), ()), Valued({}), NoValues(0, None), Answer((), ()), Answered(None, None, None),
    Rule(("p", ()), []), Program([]), Question([], []), Needless(0, {}), Unfolded(None, ()), (Spent(0), ()),
    ("given", Spent(0)), (Spent(0), 0), (Answer((), ()),), Follows(0), Against({}), Placed({}), Round((0,)), AllMet(),
    Unmet(("a",)), Signature(["a"], {"f": 1}), Equal(()), Apart({}, {}, 0), Came((), 0, True), Desk(Program([])),
    ("same", Follows(0)), ("inside", "f", (Round(()),)), ("inside", Equal(()), (0,)), ("f", (Placed({}),)),
    Model(1, {}, 0, {}, 0, {}), Has({}), Held(Program([])), uniform.Follows((0, ())), uniform.Apart(()), SameTerms(),
    OnlyOne("a"), TermSet(1, {}, {}, 0, (0,)), SameSet(), InOne("a"), Fewest({0: "a"}, {}), Barred(("p", ()), [], []),
    Strata({}), Ringed(()), AllIn(), NotIn({}), (Model(1, {}, 0, {}, 0, {}),), ("p", (TermSet(1, {}, {}, 0, ()),)),
    ("f", (Has({}),)), (SameSet(), 0), (0, (Strata({}),)), (Barred(("p", ()), [], []), ()), ("given", InOne("a")),
]
# These are well made, but hardly what stands there.
OTHER = [-1, 0, 1, 2, 99, 10 ** 9, "a", "f", "x", "?", "given", "turned", "joined", "part", (), (0, 1), ("a", "b"),
         ("?", "x"), ("?", 0), ("f", ("a",)), ("given", 0), ("turned", 0), ("part", 0, 0), ("joined", 0, 0), (0, ()),
         ((0, ()),), (1, ((0, ()),)), ("", 0), ("given", 0, 0), ("given",), ("part", 0)]


def is_hashable(thing):
    try:
        hash(thing)
    except TypeError:
        return False
    return True


def spoilt(value, things):
    """All that comes of a value by putting one of some things in one place of it."""
    yield from things
    if isinstance(value, tuple):
        for place, part in enumerate(value):
            for other in spoilt(part, things):
                yield value[:place] + (other,) + value[place + 1 :]
    if isinstance(value, dict):
        for key in value:
            for other in spoilt(value[key], things):
                yield {**value, key: other}
            for other in things:
                if is_hashable(other) and other not in value:
                    yield {(other if one == key else one): value[one] for one in value}


def written(value):
    """A text by which True and 1 differ, and that is the same for what is alike."""
    if isinstance(value, (tuple, list)):
        return type(value).__name__ + "(" + ",".join(written(part) for part in value) + ")"
    if isinstance(value, dict):
        return "{" + ",".join(written(key) + ":" + written(value[key]) for key in value) + "}"
    if isinstance(value, (int, str)) or value is None:
        return repr(value)
    return type(value).__name__ + written(value.__dict__)


def check_spoilt(test, evidence, arguments):
    """Asks that evidence shows something, and that no spoilt evidence of its class does, or fails.

    Of what is well made a bool is asked alone: some of it may be right as well.
    """
    test.assertIs(evidence.shows(*arguments), True)
    kind = type(evidence)
    parts = dict(evidence.__dict__)
    count = 0
    for name in parts:
        for things in (WRONG, OTHER):
            for value in spoilt(parts[name], things):
                if written(value) != written(parts[name]):
                    result = kind(**{**parts, name: value}).shows(*arguments)
                    count += 1
                    if things is WRONG:
                        test.assertIs(result, False, (kind.__name__, name, value))
                    else:
                        test.assertIsInstance(result, bool, (kind.__name__, name, value))
    return count
