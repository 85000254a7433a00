"""Terms that share their parts: each unlike part is gone through once, however often it stands in them."""

from proofsizes.sharing import FEW_STEPS, unlike_parts
from proofsizes.terms import is_constant, is_name, is_unknown_name


class SharedTerms:
    """The unlike parts of a row of things that may be terms, and which unknowns stand in each, how often.

    These are None for a part that is no term; as the rows of compounds' terms are none.
    """

    def __init__(self, things):
        self.parts, self.numbers = unlike_parts(things, FEW_STEPS)
        self.unknowns = []
        for inner, leaf in self.parts:
            self.unknowns.append(self.unknowns_in(inner, leaf))

    def unknowns_in(self, inner, leaf):
        """The dict from names of unknowns to how often they stand in a part; None for what is no term."""
        if inner is None:
            return {} if is_constant(leaf) else None
        if len(inner) != 2:
            return None
        name = self.parts[inner[0]][1]
        row, called = self.parts[inner[1]]
        if name == "?":
            return {called: 1} if row is None and is_unknown_name(called) else None
        if not row or not is_name(name) or None in [self.unknowns[part] for part in row]:
            return None
        found = {}
        for part in row:
            for one, many in self.unknowns[part].items():
                found[one] = found.get(one, 0) + many
        return found

    def states_by(self, states, values):
        """The list of the states of all parts, by a dict from names of unknowns to states; None where there is none."""
        found = []
        for at, (inner, leaf) in enumerate(self.parts):
            if self.unknowns[at] is None:
                found.append(None)
            elif inner is None:
                found.append(states.of_constant(leaf))
            else:
                found.append(self.state_of_pair(states, values, found, inner))
        return found

    def state_of_pair(self, states, values, found, inner):
        """The state of an unknown or a compound, by those of its parts; None if one of them has none."""
        name = self.parts[inner[0]][1]
        row, called = self.parts[inner[1]]
        if name == "?":
            return values.get(called)
        below = tuple([found[part] for part in row])
        return None if None in below else states.of_compound(name, below)
