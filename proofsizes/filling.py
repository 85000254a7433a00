"""Ground terms of a closed signature for unknowns, by which inequations hold."""

from proofsizes.bindings import bound_by
from proofsizes.errors import TooLarge
from proofsizes.nodes import names_in, put_in_pairs
from proofsizes.shelves import Shelf
from proofsizes.terms import sides_of

MOST_CASES = 20000


class Cases:
    """How many cases were gone through."""

    def __init__(self):
        self.gone = 0

    def pass_one(self):
        """Counts a case more, and raises TooLarge if they are too many."""
        self.gone += 1
        if self.gone > MOST_CASES:
            raise TooLarge(self.gone)


class Filling:
    """A signature's constants and compounds, and a search for ground terms of these.

    Of each unknown is told which compounds it may be; it may be all constants. One that may
    be no compound is narrow. The others have endless many terms, of which an inequation bars
    one at most when all but one unknown have their terms, so these can be filled one by one.
    """

    def __init__(self, constants, compounds, cases):
        self.shelf = Shelf()
        self.constants = [self.shelf.node_for(constant, ()) for constant in constants]
        self.compounds = compounds
        self.cases = cases
        self.row = list(self.constants)
        self.grown = 0

    def fill(self, heads, inequations):
        """A dict from unknowns, with the compounds that each may be, to ground terms; None if there is none."""
        rows = self.solved_rows(inequations, {})
        if rows is None:
            return None
        narrow = {name: True for name in heads if not heads[name]}
        worth = {name: self.constants[0] for name in narrow}
        for group in grouped([row for row in rows if is_among(row, narrow)]):
            found = self.fill_narrow(group)
            if found is None:
                return None
            worth.update(found)
        for name in heads:
            if name not in narrow:
                worth[name] = self.first_let(name, heads[name], self.solved_rows(inequations, worth))
        return worth

    def solved_rows(self, inequations, worth):
        """For inequations with terms put in, that can fail, the pairs by which they do; None if one always fails."""
        rows = []
        for pairs in inequations:
            bound = bound_by(put_in_pairs(pairs, worth))
            if bound is not None and not bound:
                return None
            if bound is not None:
                nodes = self.shelf.copies_of([bound[name] for name in bound])
                rows.append(list(zip([self.shelf.unknown(name) for name in bound], nodes)))
        return rows

    def rows_behind(self, rows, name, constant):
        """Rows of pairs when an unknown has a constant, without those that can't be so; None if one always is."""
        unknown = self.shelf.unknown(name)
        asked = [row for row in rows if unknown in sides_of(row)]
        solved = self.solved_rows(asked, {name: constant})
        return None if solved is None else solved + [row for row in rows if unknown not in sides_of(row)]

    def fill_narrow(self, rows):
        """Constants for narrow unknowns by which no row of pairs is the same; None if there are none."""
        waiting = [({}, rows)]
        while waiting:
            worth, left = waiting.pop()
            self.cases.pass_one()
            if not left:
                return worth
            name, lets = self.narrowest(left)
            for constant in lets[::-1]:
                behind = self.rows_behind(left, name, constant)
                if behind is not None:
                    waiting.append(({**worth, name: constant}, behind))
        return None

    def narrowest(self, rows):
        """The unknown for which the fewest constants need to be tried, and these."""
        named = {}
        barred = {}
        for row in rows:
            for side in sides_of(row):
                if side.inner is not None:
                    named[side] = True
            if len(row) == 1 and row[0][1].inner is not None:
                barred.setdefault(row[0][0].name, {})[row[0][1]] = True
        # Those that no row names do the same for all unknowns, so one of them is enough.
        tried = list(named) + [constant for constant in self.constants if constant not in named][:1]
        best = None
        for name in names_in([side for row in rows for side in sides_of(row)]):
            lets = [constant for constant in tried if constant not in barred.get(name, {})]
            if best is None or len(lets) < len(best[1]):
                best = (name, lets)
        return best

    def first_let(self, name, heads, rows):
        """The first term, that is a constant or has one of some heads, which no row bars for an unknown."""
        barred = {row[0][1]: True for row in rows if len(row) == 1 and row[0][0].name == name}
        for constant in self.constants:
            if constant not in barred:
                return constant
        at = 0
        while True:
            for head in heads:
                term = self.around(head, self.term_at(at))
                if term not in barred:
                    return term
            at += 1

    def around(self, head, term):
        """The compound with a head around a term; its other parts are constants."""
        return self.shelf.node_for(head, (term,) + (self.constants[0],) * (self.compounds[head] - 1))

    def term_at(self, at):
        """The term with a number, of endless many unlike ones."""
        while len(self.row) <= at:
            self.row.extend([self.around(head, self.row[self.grown]) for head in self.compounds])
            self.grown += 1
        return self.row[at]


def is_among(row, narrow):
    """Whether all sides of pairs are constants or narrow unknowns; otherwise they need not be the same."""
    if any([side.inner for side in sides_of(row)]):
        return False
    return all([name in narrow for name in names_in(sides_of(row))])


def grouped(rows):
    """The list of groups of rows that have no unknowns in common."""
    groups = []
    for row in rows:
        names = {name: True for name in names_in(sides_of(row))}
        apart = []
        together = [row]
        for others, group in groups:
            if any([name in others for name in names]):
                names.update(others)
                together.extend(group)
            else:
                apart.append((others, group))
        groups = apart + [(names, together)]
    return [group for _, group in groups]
