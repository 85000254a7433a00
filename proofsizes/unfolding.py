"""Programs turned: a rule's goal gives way to what it follows from, and needless rules go."""

from proofsizes.bindings import Bindings
from proofsizes.errors import BadRule
from proofsizes.nodes import ascending_names, dict_of_terms, matched, names_in, numbered, put_in, terms_of
from proofsizes.programs import OWN_NAMES, Program, Rule, all_goals, relation_goals, relation_of, terms_in_goals
from proofsizes.proofs import answer_of, trees_in
from proofsizes.sharing import are_same_dicts
from proofsizes.shelves import Shelf
from proofsizes.solving import dict_if_terms
from proofsizes.terms import as_dict, as_tuple, is_number_below, name_key


class Unfolded:
    """A program with an unfolded rule, and the numbers of the rules whose goals were put into it."""

    def __init__(self, program, numbers):
        self.program = program
        self.numbers = as_tuple(numbers)

    def __eq__(self, other):
        return isinstance(other, Unfolded) and self.program == other.program and self.numbers == other.numbers


class Needless:
    """Another rule, and terms for its unknowns by which it does all that a rule does."""

    def __init__(self, by, terms):
        self.by = by
        self.terms = as_dict(terms)

    def __eq__(self, other):
        return isinstance(other, Needless) and self.by == other.by and are_same_dicts(self.terms, other.terms)

    def shows(self, program, number):
        """Whether the rule with a number is needless by the other one, with these terms."""
        check_number(program, number)
        if not is_number_below(self.by, len(program.rules)) or self.by == number:
            return False
        shelf = Shelf()
        goals = goals_on(shelf, program.rules[self.by])
        worth = dict_if_terms(shelf, self.terms)
        if worth is None or sorted(worth, key=name_key) != ascending_names(terms_in_goals(goals)):
            return False
        done = with_terms(goals, shelf.put_in(terms_in_goals(goals), worth))
        return does_as_much(done, goals_on(shelf, program.rules[number]))


def unfolded(program, number, place):
    """The Unfolded in which a rule gives way to those that come of its goal with a place."""
    check_number(program, number)
    rule = program.rules[number]
    if not is_number_below(place, len(rule.goals)) or rule.goals[place][0] in OWN_NAMES:
        raise BadRule(number, "place")
    rules = []
    numbers = []
    for by, other in enumerate(program.rules):
        joined = joined_rule(rule, place, other)
        if joined is not None:
            rules.append(joined)
            numbers.append(by)
    return Unfolded(Program(program.rules[:number] + tuple(rules) + program.rules[number + 1:]), numbers)


def check_number(program, number):
    """Raises BadRule for what is no number of a rule."""
    if not is_number_below(number, len(program.rules)):
        raise BadRule(number, "number")


def joined_rule(rule, place, other):
    """The rule with another one's goals in place of a goal; None if its head can't be made the same."""
    shelf = Shelf()
    ours, theirs = goals_on(shelf, rule), goals_on(shelf, other)
    names = names_in(terms_in_goals(ours))
    ours = with_terms(ours, put_in(terms_in_goals(ours), numbered(names, 0)))
    others = terms_in_goals(theirs)
    theirs = with_terms(theirs, put_in(others, numbered(names_in(others), len(names))))
    goal = ours[1 + place]
    bindings = Bindings()
    if relation_of(goal) != relation_of(theirs[0]):
        return None
    if not bindings.make_same(list(zip(goal[1], theirs[0][1]))):
        return None
    goals = ours[:1 + place] + theirs[1:] + ours[2 + place:]
    nodes = bindings.resolved(terms_in_goals(goals), {})
    head, *behind = with_terms(goals, terms_of(put_in(nodes, numbered(names_in(nodes), 0))))
    return Rule(head, behind)


def goals_on(shelf, rule):
    """The list of a rule's head and its goals, with the nodes of their terms on a shelf."""
    goals = all_goals(rule)
    return with_terms(goals, shelf.nodes_of(terms_in_goals(goals)))


def with_terms(goals, terms):
    """The list of goals with other terms, which stand in one row."""
    found = []
    at = 0
    for name, inner in goals:
        found.append((name, tuple(terms[at:at + len(inner)])))
        at += len(inner)
    return found


def carried(program, number, place, question, proofs):
    """The proofs by the unfolded program that proofs become; None for such without an answer."""
    numbers = unfolded(program, number, place).numbers
    if answer_of(program, question, proofs) is None:
        return None
    at = len(relation_goals(program.rules[number].goals[:place]))
    both = []
    for tree in reversed(trees_in(proofs)):
        start = len(both) - len(tree[1])
        inner = both[start:][::-1]
        del both[start:]
        both.append(carried_tree(tree[0], inner, number, at, numbers))
    return tuple([tree for tree, _ in both[::-1]])


def carried_tree(rule, inner, number, at, numbers):
    """What a tree becomes, and it itself with what those within it become, of such pairs for these."""
    trees = tuple([tree for tree, _ in inner])
    if rule == number:
        by, others = inner[at][1]
        return (number + numbers.index(by), trees[:at] + others + trees[at + 1:]), (rule, trees)
    new = rule if rule < number else rule + len(numbers) - 1
    return (new, trees), (rule, trees)


def needless(program, number):
    """A Needless with the first other rule that makes a rule needless, None if none does."""
    check_number(program, number)
    for by, other in enumerate(program.rules):
        terms = None if by == number else terms_for(other, program.rules[number])
        if terms is not None:
            return Needless(by, terms)
    return None


def without_rule(program, number):
    """The program without a rule that is needless, None if it isn't."""
    if needless(program, number) is None:
        return None
    return Program(program.rules[:number] + program.rules[number + 1:])


def terms_for(other, rule):
    """Terms for another rule's unknowns by which it does all that a rule does; None without any."""
    if relation_of(other.head) != relation_of(rule.head):
        return None
    shelf = Shelf()
    wanted, *known = goals_on(shelf, rule)
    first, *asked = goals_on(shelf, other)
    head = matched(first[1], wanted[1], {})
    if head is None:
        return None
    # Goals that can be few of the rule's come first, so that little is tried in vain.
    goals = sorted(asked, key=lambda goal: len(ways_to_meet(goal, known, head)))
    waiting = [(0, head)]
    while waiting:
        at, worth = waiting.pop()
        if at == len(goals):
            return dict_of_terms({name: worth[name] for name in sorted(worth, key=name_key)})
        ways = ways_to_meet(goals[at], known, worth)
        waiting.extend([(at + 1, more) for more in ways[::-1]])
    return None


def ways_to_meet(goal, goals, worth):
    """For a goal to be one of some goals: dicts with more terms for its unknowns."""
    found = []
    for other in goals:
        if relation_of(other) == relation_of(goal):
            found.append(matched(goal[1], other[1], worth))
            if goal[0] in OWN_NAMES:
                found.append(matched(goal[1], other[1][::-1], worth))
    return [more for more in found if more is not None]


def does_as_much(done, wanted):
    """Whether of two rows of a head and goals the first one has the other's head, and no goals but its."""
    head, *goals = done
    first, *others = wanted
    for goal in goals:
        is_turned = goal[0] in OWN_NAMES and (goal[0], goal[1][::-1]) in others
        if goal not in others and not is_turned:
            return False
    return head == first
