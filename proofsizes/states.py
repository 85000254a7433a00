"""States of all ground terms, by tables, and rows of the states of terms that goals ask."""

from proofsizes.nodes import unlike_nodes
from proofsizes.programs import OWN_NAMES, relation_of
from proofsizes.shelves import Shelf
from proofsizes.terms import is_constant, is_integer, is_name, is_number_below, is_unknown

MOST_STATES = 16


class States:
    """A number of states, those of some constants and of all others, tables for some compounds, that of all others."""

    def __init__(self, many, constants, other, compounds, beyond):
        self.many = many
        self.constants = constants
        self.other = other
        self.compounds = compounds
        self.beyond = beyond

    def of_constant(self, constant):
        """The state of a constant."""
        return self.constants.get(constant, self.other)

    def has_table(self, name, parts):
        """Whether there is a table for a compound."""
        return (name, parts) in self.compounds

    def of_compound(self, name, inner):
        """The state of a compound with a name, by those of its parts."""
        table = self.compounds.get((name, len(inner)))
        return self.beyond if table is None else table[inner]

    def of_term(self, term, values):
        """The state of a term, by a dict from its unknowns, or their names, to states."""
        worth = {key[1] if is_unknown(key) else key: values[key] for key in values}
        return self.of_node(Shelf().node_of(term), worth)

    def of_node(self, root, worth):
        """The state of a term's node, by a dict from names of unknowns to states."""
        found = {}
        for node in unlike_nodes([root]):
            if node.inner:
                found[node] = self.of_compound(node.name, tuple([found[part] for part in node.inner]))
            else:
                found[node] = worth[node.name] if node.inner is None else self.of_constant(node.name)
        return found[root]


def power(base, many):
    """A number times itself, so many times."""
    found = 1
    for _ in range(many):
        found = found * base
    return found


def rows_of(things, many):
    """The list of all rows of so many of some things, the last place changing first."""
    rows = [()]
    for _ in range(many):
        rows = [row + (thing,) for row in rows for thing in things]
    return rows


def is_many(thing):
    """Whether a thing is a number of states as it may be."""
    return is_integer(thing) and 1 <= thing <= MOST_STATES


def is_row_of_states(thing, parts, many):
    """Whether a thing is a tuple of so many parts' states."""
    return isinstance(thing, tuple) and len(thing) == parts and all([is_number_below(one, many) for one in thing])


def are_states_of_constants(thing, many):
    """Whether all that a dict leads to are states."""
    return all([is_number_below(thing[key], many) for key in thing])


def is_dict_of_constants(thing):
    """Whether a thing is a dict from constants."""
    return isinstance(thing, dict) and all([is_constant(key) for key in thing])


def are_tables(thing, many):
    """Whether a thing is a dict from names with numbers of parts to dicts from all rows of so many states."""
    if not isinstance(thing, dict):
        return False
    for key in thing:
        if not isinstance(key, tuple) or len(key) != 2 or not is_name(key[0]):
            return False
        if not is_integer(key[1]) or key[1] < 1 or not has_all_rows(thing[key], key[1], many):
            return False
    return True


def has_all_rows(thing, parts, many):
    """Whether a thing is a dict from all rows of so many parts' states."""
    if not isinstance(thing, dict) or not all([is_row_of_states(row, parts, many) for row in thing]):
        return False
    asked = 1
    part = 0
    # No more than the rows that there are need to be counted.
    while part < parts and asked <= len(thing):
        asked = asked * many
        part += 1
    return len(thing) == asked


def lead_to_states(thing, many):
    """Whether all rows of tables lead to states."""
    return all([is_number_below(thing[key][row], many) for key in thing for row in thing[key]])


def copied_tables(thing):
    """New dicts with the same rows."""
    return {key: {row: thing[key][row] for row in thing[key]} for key in thing}


class Columns:
    """Rows of states, one for each way to give states to unknowns by which some goals are so.

    A column is for an unknown, a constant, or a compound of what stands in other columns.
    """

    def __init__(self, tables, relations):
        self.tables = tables
        self.relations = relations
        self.numbers = {}
        self.rows = [()]

    def column_of(self, term):
        """The number of a term's column; it and those of its parts are added where they lack."""
        built = {}
        root = Shelf().node_of(term)
        for node in unlike_nodes([root]):
            if node.inner:
                built[node] = self.compound_column(node.name, tuple([built[part] for part in node.inner]))
            elif node.inner is None:
                built[node] = self.unknown_column(node.name)
            else:
                built[node] = self.constant_column(node.name)
        return built[root]

    def unknown_column(self, name):
        """The column of an unknown, which may have each state."""
        key = ("?", name)
        if key not in self.numbers:
            self.rows = [row + (state,) for row in self.rows for state in range(self.tables.many)]
            self.numbers[key] = len(self.numbers)
        return self.numbers[key]

    def constant_column(self, constant):
        """The column of a constant."""
        key = ("", constant)
        if key not in self.numbers:
            state = self.tables.of_constant(constant)
            self.rows = [row + (state,) for row in self.rows]
            self.numbers[key] = len(self.numbers)
        return self.numbers[key]

    def compound_column(self, name, inner):
        """The column of a compound of what stands in some columns."""
        key = (name, inner)
        if key not in self.numbers:
            self.rows = [row + (self.made_of(name, row, inner),) for row in self.rows]
            self.numbers[key] = len(self.numbers)
        return self.numbers[key]

    def made_of(self, name, row, inner):
        """The state of a compound of what stands in some columns of a row."""
        return self.tables.of_compound(name, tuple([row[at] for at in inner]))

    def ask(self, goal):
        """Leaves those rows alone by which a goal is so."""
        if goal[0] == "unlike":
            return
        inner = [self.column_of(term) for term in goal[1]]
        if goal[0] in OWN_NAMES:
            one, other = inner
            self.rows = [row for row in self.rows if row[one] == row[other]]
        else:
            lets = self.relations.get(relation_of(goal), {})
            self.rows = [row for row in self.rows if tuple([row[at] for at in inner]) in lets]

    def rows_for(self, terms):
        """The dict, to True, of all rows of the states of some terms."""
        inner = [self.column_of(term) for term in terms]
        return {tuple([row[at] for at in inner]): True for row in self.rows}
