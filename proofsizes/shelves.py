"""Shelves of terms, on which each term is one node, whatever it comes of."""

from proofsizes.nodes import made_node, paired, unknown_node, unlike_nodes
from proofsizes.sharing import FEW_STEPS, unlike_parts
from proofsizes.terms import MOST_WITHIN, are_terms_by_parts, is_constant, is_pair_shape, is_row, is_small_term
from proofsizes.terms import parts_up_to, sides_of


class Shelf:
    """The node of each term that was put there: terms are the same just if their nodes are one."""

    def __init__(self):
        self.known = {}

    def unknown(self, name):
        """The node of the unknown with a name."""
        return self.node_for(name, None)

    def node_for(self, name, inner):
        """The node of a term with a name, or that is a constant, and the nodes of its parts, None of an unknown."""
        found = self.known.get((name, inner))
        if found is None:
            found = unknown_node(name) if inner is None else made_node(name, inner)
            self.known[name, inner] = found
        return found

    def put_in(self, nodes, worth):
        """The list of the nodes, here, of terms with the terms of a dict in place of the unknowns that it names."""
        built = {}
        for node in unlike_nodes(nodes):
            if node.inner is None:
                built[node] = worth[node.name] if node.name in worth else self.unknown(node.name)
            else:
                built[node] = self.node_for(node.name, tuple([built[part] for part in node.inner]))
        return [built[node] for node in nodes]

    def copies_of(self, nodes):
        """The list of the nodes, here, of the terms of other nodes."""
        return self.put_in(nodes, {})

    def nodes_of(self, terms):
        """The list of the nodes of terms."""
        found = [self.node_of_small(term) for term in terms]
        if None not in found:
            return found
        parts, numbers = unlike_parts(terms, FEW_STEPS)
        return self.nodes_by_parts(parts, numbers)

    def nodes_if_terms(self, things, most):
        """The list of the nodes of terms with at most so many within one another; None if a thing is no such term."""
        are_small = [is_small_term(thing, most) for thing in things]
        if False in are_small:
            return None
        if None not in are_small:
            return [self.node_of_small(thing) for thing in things]
        parts, numbers = unlike_parts(things, FEW_STEPS)
        if not are_terms_by_parts(things, most, parts, numbers):
            return None
        return self.nodes_by_parts(parts, numbers)

    def nodes_by_parts(self, parts, numbers):
        """The list of the nodes of terms with some numbers among the unlike parts of terms."""
        built = []
        for inner, leaf in parts:
            built.append(self.node_of_part(parts, built, inner, leaf))
        return [built[number] for number in numbers]

    def node_of_small(self, term):
        """The node of a term without many parts; None for one that has more."""
        parts = parts_up_to(term, FEW_STEPS)
        if parts is None:
            return None
        built = []
        for part in reversed(parts):
            if not isinstance(part, tuple):
                built.append(self.node_for(part, ()))
            elif part[0] == "?":
                built.append(self.unknown(part[1]))
            else:
                many = len(part[1])
                inner = tuple(built[-many:][::-1])
                del built[-many:]
                built.append(self.node_for(part[0], inner))
        return built[0]

    def node_of_part(self, parts, built, inner, leaf):
        """The node of one of the unlike parts of terms, by the nodes of those ahead; None for what is no term."""
        if inner is None:
            return self.node_for(leaf, ()) if is_constant(leaf) else None
        if len(inner) != 2 or parts[inner[0]][0] is not None:
            return None
        name, (row, called) = parts[inner[0]][1], parts[inner[1]]
        if name == "?":
            return self.unknown(called)
        if not row or None in [built[part] for part in row]:
            return None
        return self.node_for(name, tuple([built[part] for part in row]))

    def node_of(self, term):
        """The node of a term."""
        return self.nodes_of([term])[0]

    def pairs_of(self, pairs):
        """The list of pairs of the nodes of terms."""
        return paired(self.nodes_of(sides_of(pairs)))

    def rows_of(self, rows):
        """The list of lists of such pairs, for rows of pairs."""
        return parted_pairs(self.nodes_of(sides_of_rows(rows)), rows)

    def rows_if_terms(self, things):
        """The same for things that are rows of pairs of terms that may be handed in; None if one is none."""
        if not all([is_row(row) and all([is_pair_shape(pair) for pair in row]) for row in things]):
            return None
        nodes = self.nodes_if_terms(sides_of_rows(things), MOST_WITHIN)
        return None if nodes is None else parted_pairs(nodes, things)

    def key_of(self, form):
        """A key that is the same for the normal forms of equal answers alone."""
        nodes = self.copies_of(form.all_nodes())
        lengths = tuple([len(row) for row in form.rows])
        return lengths, tuple(nodes)


def sides_of_rows(rows):
    """The sides of all pairs of rows of these."""
    return [side for pairs in rows for side in sides_of(pairs)]


def parted_pairs(sides, rows):
    """The list of lists of pairs with other sides, which stand in one row, for rows of pairs."""
    found = []
    at = 0
    for row in rows:
        found.append(paired(sides[at:at + 2 * len(row)]))
        at += 2 * len(row)
    return found
