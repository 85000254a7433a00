"""Programs whose goals fall from term to term, and the rules that a question can come to."""

from proofsizes.errors import BadRule, TooLarge
from proofsizes.nodes import unlike_nodes
from proofsizes.programs import OWN_NAMES, Program, all_goals, relation_goals, relation_of
from proofsizes.shelves import Shelf
from proofsizes.terms import is_integer, is_name, is_number_below

MOST_DICTS = 4096


def is_falling(program, places):
    """Whether a program is falling by a dict of places."""
    return first_standing(program, places) is None


def first_standing(program, places):
    """The numbers of the first rule, and of the first of its goals, that don't fall; None without any."""
    check_places(program, places)
    for number, rule in enumerate(program.rules):
        above = places.get(relation_of(rule.head))
        for at, goal in enumerate(rule.goals):
            if goal[0] not in OWN_NAMES:
                if (above, places.get(relation_of(goal))) not in falling_pairs(rule.head, goal):
                    return number, at
    return None


def falling_pairs(head, goal):
    """All pairs of places at which a goal's term stands within the head's term, and isn't all of it."""
    shelf = Shelf()
    nodes = shelf.nodes_of(goal[1])
    found = []
    for above, node in enumerate(shelf.nodes_of(head[1])):
        # The term itself stands behind all that stand in it.
        inner = {part: True for part in unlike_nodes([node])[:-1]}
        found.extend([(above, below) for below, other in enumerate(nodes) if other in inner])
    return found


def check_places(program, places):
    """Raises BadRule for what is no dict of places."""
    if not isinstance(places, dict):
        raise BadRule(None, "places")
    relations = relations_of(program)
    for relation in places:
        if not is_relation(relation) or relation not in relations:
            raise BadRule(None, "places")
        if not is_number_below(places[relation], relation[1]):
            raise BadRule(None, "places")


def is_relation(thing):
    """Whether a thing is a pair of a name and a number."""
    return isinstance(thing, tuple) and len(thing) == 2 and is_name(thing[0]) and is_integer(thing[1])


def relations_of(program):
    """The ascending list of the relations of which a program speaks."""
    found = {}
    for rule in program.rules:
        for goal in relation_goals(all_goals(rule)):
            found[relation_of(goal)] = True
    return sorted(found)


def falling_places(program):
    """The first dict, with a place for each relation that has terms, by which a program is falling; or None."""
    relations = [relation for relation in relations_of(program) if relation[1] > 0]
    many = 1
    for _, terms in relations:
        many = many * terms
    if many > MOST_DICTS:
        raise TooLarge(many)
    asked = falling_asked(program)
    for number in range(many):
        places = places_numbered(relations, number)
        if all([(places.get(above), places.get(below)) in pairs for above, below, pairs in asked]):
            return places
    return None


def falling_asked(program):
    """For each relation goal of each rule the head's relation, its own, and the pairs of places by which it falls."""
    found = []
    for rule in program.rules:
        for goal in relation_goals(rule.goals):
            found.append((relation_of(rule.head), relation_of(goal), falling_pairs(rule.head, goal)))
    return found


def places_numbered(relations, number):
    """The dict of places with a number, in the order in which the last relation's place changes first."""
    found = []
    for _, terms in reversed(relations):
        number, place = divmod(number, terms)
        found.append(place)
    return {relation: place for relation, place in zip(relations, found[::-1])}


def levels_for(program, places, question):
    """How many levels behind which a question is spent, as a falling program and its ground terms tell; or None."""
    if not is_falling(program, places):
        return None
    most = 0
    for goal in relation_goals(question.goals):
        relation = relation_of(goal)
        if relation not in places:
            return None
        node = Shelf().node_of(goal[1][places[relation]])
        if not node.is_ground:
            return None
        most = max(most, depth_of(node))
    return most


def depth_of(node):
    """How many terms stand within one another in a term, at most."""
    levels = {}
    for part in unlike_nodes([node]):
        levels[part] = 1 + max([0] + [levels[one] for one in part.inner or ()])
    return levels[node]


def reached_rules(program, question):
    """The ascending tuple of the numbers of the rules that a question can come to."""
    reached = {}
    waiting = [relation_of(goal) for goal in relation_goals(question.goals)]
    while waiting:
        relation = waiting.pop()
        for number, rule in enumerate(program.rules):
            if number not in reached and relation_of(rule.head) == relation:
                reached[number] = True
                waiting.extend([relation_of(goal) for goal in relation_goals(rule.goals)])
    return tuple(sorted(reached))


def for_question(program, question):
    """The program of the rules alone that a question can come to."""
    return Program([program.rules[number] for number in reached_rules(program, question)])
