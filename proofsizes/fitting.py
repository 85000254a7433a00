"""States for unknowns by which terms have some of the states that are let."""

from proofsizes.nodes import names_in, unlike_nodes


class Spread:
    """A term with all states that it may have, and those of its parts."""

    def __init__(self, node, may_be, inner):
        self.node = node
        self.may_be = may_be
        self.inner = inner


def fitted(states, asked, domain):
    """A dict from the names of unknowns to states of a domain by which all is so; None without any.

    What is asked are pairs of a term's node and a dict of the states that it may have.
    """
    found = {}
    for group in groups_of(asked):
        worth = fitted_group(states, group, domain)
        if worth is None:
            return None
        found.update(worth)
    return found


def groups_of(asked):
    """The list of groups of what is asked that have no unknowns in common."""
    groups = []
    for term, lets in asked:
        names = {name: True for name in names_in([term])}
        apart = []
        together = [(term, lets)]
        for others, group in groups:
            if any([name in others for name in names]):
                names.update(others)
                together.extend(group)
            else:
                apart.append((others, group))
        groups = apart + [(names, together)]
    return [group for _, group in groups]


def fitted_group(states, asked, domain):
    """Such a dict for a group. Unknowns that stand once may have any states, so the others are tried alone."""
    repeated = repeated_names([term for term, _ in asked])
    waiting = [{}]
    while waiting:
        worth = waiting.pop()
        spreads = [(spread_of(states, term, worth, domain), lets) for term, lets in asked]
        if not all([any([state in lets for state in spread.may_be]) for spread, lets in spreads]):
            continue
        if len(worth) == len(repeated):
            return with_once(states, spreads, worth)
        name = repeated[len(worth)]
        waiting.extend([{**worth, name: state} for state in domain[::-1]])
    return None


def repeated_names(nodes):
    """The names of those unknowns that stand more than once in terms."""
    parts = unlike_nodes(nodes)
    many = {part: 0 for part in parts}
    for node in nodes:
        many[node] += 1
    for node in parts[::-1]:
        for part in node.inner or ():
            many[part] += many[node]
    names = {}
    for node in parts:
        if node.inner is None:
            names[node.name] = names.get(node.name, 0) + many[node]
    return [name for name in names if names[name] > 1]


def spread_of(states, root, worth, domain):
    """The states that a term may have, when some unknowns have theirs and all others may have any of a domain."""
    built = {}
    for node in unlike_nodes([root]):
        inner = [built[part] for part in node.inner or ()]
        if node.inner is None:
            lets = [worth[node.name]] if node.name in worth else domain
        elif inner:
            lets = [state for state, _ in ways_to_be(states, node, inner)]
        else:
            lets = [states.of_constant(node.name)]
        built[node] = Spread(node, {state: True for state in lets}, inner)
    return built[root]


def ways_to_be(states, node, inner):
    """The list of states that a compound may have, each with the row of its parts' states, as far as it hangs on it."""
    columns = [list(one.may_be) for one in inner]
    if not states.has_table(node.name, len(inner)):
        return [(states.beyond, tuple([column[0] for column in columns]))]
    return [(states.of_compound(node.name, row), row) for row in rows_in(columns)]


def rows_in(columns):
    """The list of all rows with a thing of each of some rows."""
    rows = [()]
    for things in columns:
        rows = [row + (thing,) for row in rows for thing in things]
    return rows


def with_once(states, spreads, worth):
    """The states of unknowns, with those, too, that stand once: each term has the first state that is let."""
    found = dict(worth)
    met = {}
    waiting = [(spread, [state for state in spread.may_be if state in lets][0]) for spread, lets in spreads]
    while waiting:
        spread, state = waiting.pop()
        # What stands again has no unknown in it that stands once.
        if spread not in met:
            met[spread] = True
            if spread.node.inner is None:
                found[spread.node.name] = state
            elif spread.inner:
                rows = [row for one, row in ways_to_be(states, spread.node, spread.inner) if one == state]
                waiting.extend(list(zip(spread.inner, rows[0])))
    return found
