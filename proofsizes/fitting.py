"""States for unknowns by which terms have some of the states that are let."""

from proofsizes.terms import is_compound, is_unknown, names_in, parts_of


class Spread:
    """A term with all states that it may have, and those of its parts."""

    def __init__(self, part, may_be, inner):
        self.part = part
        self.may_be = may_be
        self.inner = inner


def fitted(states, asked, domain):
    """A dict from the names of unknowns to states of a domain by which all is so; None without any.

    What is asked are pairs of a term and a dict of the states that it may have.
    """
    found = {}
    for group in groups_of(asked):
        worth = fitted_group(states, group, domain)
        if worth is None:
            return None
        found.update(worth)
    return found


def groups_of(asked):
    """The list of groups of what is asked that have no unknowns in common."""
    groups = []
    for term, lets in asked:
        names = {name: True for name in names_in([term])}
        apart = []
        together = [(term, lets)]
        for others, group in groups:
            if any([name in others for name in names]):
                names.update(others)
                together.extend(group)
            else:
                apart.append((others, group))
        groups = apart + [(names, together)]
    return [group for _, group in groups]


def fitted_group(states, asked, domain):
    """Such a dict for a group. Unknowns that stand once may have any states, so the others are tried alone."""
    repeated = repeated_names([term for term, _ in asked])
    waiting = [{}]
    while waiting:
        worth = waiting.pop()
        spreads = [(spread_of(states, term, worth, domain), lets) for term, lets in asked]
        if not all([any([state in lets for state in spread.may_be]) for spread, lets in spreads]):
            continue
        if len(worth) == len(repeated):
            return with_once(states, spreads, worth)
        name = repeated[len(worth)]
        waiting.extend([{**worth, name: state} for state in domain[::-1]])
    return None


def repeated_names(terms):
    """The names of those unknowns that stand more than once in terms."""
    many = {}
    for term in terms:
        for part in parts_of(term):
            if is_unknown(part):
                many[part[1]] = many.get(part[1], 0) + 1
    return [name for name in many if many[name] > 1]


def spread_of(states, term, worth, domain):
    """The states that a term may have, when some unknowns have theirs and all others may have any of a domain."""
    built = []
    for part in reversed(parts_of(term)):
        if is_compound(part):
            many = len(part[1])
            inner = built[-many:][::-1]
            del built[-many:]
            built.append(Spread(part, {state: True for state, _ in ways_to_be(states, part, inner)}, inner))
        elif is_unknown(part):
            lets = [worth[part[1]]] if part[1] in worth else domain
            built.append(Spread(part, {state: True for state in lets}, []))
        else:
            built.append(Spread(part, {states.of_constant(part): True}, []))
    return built[0]


def ways_to_be(states, part, inner):
    """The list of states that a compound may have, each with the row of its parts' states, as far as it hangs on it."""
    columns = [list(one.may_be) for one in inner]
    if not states.has_table(part[0], len(inner)):
        return [(states.beyond, tuple([column[0] for column in columns]))]
    return [(states.of_compound(part[0], row), row) for row in rows_in(columns)]


def rows_in(columns):
    """The list of all rows with a thing of each of some rows."""
    rows = [()]
    for things in columns:
        rows = [row + (thing,) for row in rows for thing in things]
    return rows


def with_once(states, spreads, worth):
    """The states of unknowns, with those, too, that stand once: each term has the first state that is let."""
    found = dict(worth)
    waiting = [(spread, [state for state in spread.may_be if state in lets][0]) for spread, lets in spreads]
    while waiting:
        spread, state = waiting.pop()
        if is_unknown(spread.part):
            found[spread.part[1]] = state
        elif spread.inner:
            rows = [row for one, row in ways_to_be(states, spread.part, spread.inner) if one == state]
            waiting.extend(list(zip(spread.inner, rows[0])))
    return found
