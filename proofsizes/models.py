"""Models: finitely many states for all ground terms, and rows of them for relations, that bar a question."""

from proofsizes.errors import RelationError, TooLarge
from proofsizes.programs import OWN_NAMES, all_goals, relation_goals, relation_of, terms_in_goals
from proofsizes.states import Columns, States, are_states_of_constants, are_tables, copied_tables
from proofsizes.states import is_dict_of_constants, is_many, is_row_of_states, lead_to_states, power
from proofsizes.terms import as_dict, as_tuple, is_integer, is_name, is_number_below, is_row, names_in

MOST_WAYS = 200000


class BadModel(RelationError):
    """What is wrong with a model, or with a set of terms."""

    def __init__(self, part):
        self.part = part


class Model:
    """States of all ground terms, and the rows of states of which relations are."""

    def __init__(self, many, constants, other, compounds, beyond, relations):
        part = first_wrong(many, constants, other, compounds, beyond, relations)
        if part is not None:
            raise BadModel(part)
        self.many = many
        self.constants = as_dict(constants)
        self.other = other
        self.compounds = copied_tables(compounds)
        self.beyond = beyond
        self.relations = kept_relations(relations)

    def __bool__(self):
        return False

    def __eq__(self, other):
        if not isinstance(other, Model):
            return False
        if self.many != other.many or self.constants != other.constants or self.other != other.other:
            return False
        if self.compounds != other.compounds or self.beyond != other.beyond:
            return False
        return self.relations == other.relations

    def state(self, term, values):
        """The state of a term, by those of its unknowns."""
        return states_of(self).of_term(term, values)

    def holds(self, program):
        """Whether for all states of unknowns by which a rule's goals are so its head is so."""
        relations = dict_of_rows(self.relations)
        for rule in program.rules:
            rows = asked_rows(self, relations, rule)
            lets = relations.get(relation_of(rule.head), {})
            if any([row not in lets for row in rows]):
                return False
        return True

    def bars(self, question):
        """Whether no states of unknowns make all goals so."""
        check_ways(self, question.goals)
        columns = Columns(states_of(self), dict_of_rows(self.relations))
        for goal in question.goals:
            columns.ask(goal)
        return not columns.rows

    def shows(self, program, question):
        """Whether the model holds the program and bars the question."""
        parts = (self.many, self.constants, self.other, self.compounds, self.beyond, self.relations)
        return first_wrong(*parts) is None and self.holds(program) and self.bars(question)


def first_wrong(many, constants, other, compounds, beyond, relations):
    """The first part of a model that is not as described; None if all are."""
    if not is_many(many):
        return "many"
    if not is_dict_of_constants(constants):
        return "constants"
    if not is_number_below(other, many):
        return "other"
    if not is_number_below(beyond, many):
        return "beyond"
    if not are_states_of_constants(constants, many):
        return "constants"
    if not are_tables(compounds, many) or not lead_to_states(compounds, many):
        return "compounds"
    return None if are_relations(relations, many) else "relations"


def are_relations(thing, many):
    """Whether a thing is a dict from relations to rows of rows of states."""
    if not isinstance(thing, dict):
        return False
    for relation in thing:
        if not is_relation_key(relation) or not is_row(thing[relation]):
            return False
        if not all([is_row_of_states(as_tuple(row), relation[1], many) for row in thing[relation]]):
            return False
    return True


def is_relation_key(thing):
    """Whether a thing is a pair of a relation's name and how many terms it is of."""
    if not isinstance(thing, tuple) or len(thing) != 2 or not is_name(thing[0]):
        return False
    return thing[0] not in OWN_NAMES and is_integer(thing[1]) and thing[1] >= 0


def kept_relations(relations):
    """Relations, ascending, that have rows, with ascending tuples of these."""
    rows = {key: tuple(sorted(set([tuple(row) for row in relations[key]]))) for key in sorted(relations)}
    return {key: rows[key] for key in rows if rows[key]}


def states_of(model):
    """The states of a model, without the rows of relations."""
    return States(model.many, model.constants, model.other, model.compounds, model.beyond)


def dict_of_rows(relations):
    """Dicts, to True, of the rows of relations."""
    return {key: {row: True for row in relations[key]} for key in relations}


def check_ways(model, goals):
    """Raises TooLarge for too many ways to give states to the unknowns of goals."""
    ways = power(model.many, len(names_in(terms_in_goals(goals))))
    if ways > MOST_WAYS:
        raise TooLarge(ways)


def asked_rows(model, relations, rule):
    """The dict, to True, of the rows of states that a rule asks of its head's relation."""
    check_ways(model, all_goals(rule))
    columns = Columns(states_of(model), relations)
    for goal in rule.goals:
        columns.ask(goal)
    return columns.rows_for(rule.head[1])


def least_rows(model, program):
    """The model with the same tables and the least rows by which it holds a program."""
    relations = {}
    behind = {}
    is_over = False
    while not is_over:
        is_over = True
        for number, rule in enumerate(program.rules):
            seen = tuple([len(relations.get(relation_of(goal), {})) for goal in relation_goals(rule.goals)])
            # A rule asks nothing new as long as its goals have no new rows.
            if behind.get(number) != seen:
                behind[number] = seen
                rows = relations.setdefault(relation_of(rule.head), {})
                many = len(rows)
                asked = asked_rows(model, relations, rule)
                for row in asked:
                    rows[row] = True
                is_over = is_over and len(rows) == many
    found = {key: list(relations[key]) for key in relations}
    return Model(model.many, model.constants, model.other, model.compounds, model.beyond, found)


def with_rows(model, relations):
    """The model with more rows."""
    if not are_relations(relations, model.many):
        raise BadModel("relations")
    found = {key: list(model.relations[key]) for key in model.relations}
    for key in relations:
        found[key] = found.get(key, []) + [tuple(row) for row in relations[key]]
    return Model(model.many, model.constants, model.other, model.compounds, model.beyond, found)
