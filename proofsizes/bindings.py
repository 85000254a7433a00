"""Terms for unknowns, as equations ask them, with a way back."""

from proofsizes.nodes import are_headed_alike, ascending_names, rebuilt, unknown_node
from proofsizes.terms import sides_of


class Bindings:
    """A dict from names of unknowns to terms, in which bound unknowns may stand in turn.

    What is bound is noted in order, so that a search can take back all behind a mark.
    """

    def __init__(self):
        self.bound = {}
        self.trail = []

    def mark(self):
        """How much is bound; undo leaves so much."""
        return len(self.trail)

    def begin(self, bound):
        """Goes on with what a dict tells; none of that can be taken back."""
        self.bound = bound
        self.trail = []

    def undo(self, mark):
        """Takes back all that was bound behind a mark."""
        while len(self.trail) > mark:
            del self.bound[self.trail.pop()]

    def bind(self, name, node):
        """Notes a term for an unknown that has none."""
        self.bound[name] = node
        self.trail.append(name)

    def walk(self, node):
        """The term itself, or what an unknown stands for, as far as its head is known."""
        while node.inner is None and node.name in self.bound:
            node = self.bound[node.name]
        return node

    def stands_in(self, name, node):
        """Whether an unknown without a term stands in what a term comes to."""
        seen = {}
        waiting = [node]
        while waiting:
            part = waiting.pop()
            if part.is_ground or part in seen:
                continue
            seen[part] = True
            if part.inner is not None:
                waiting.extend(part.inner)
            elif part.name == name:
                return True
            elif part.name in self.bound:
                waiting.append(self.bound[part.name])
        return False

    def make_same(self, pairs):
        """Whether both sides of all pairs can be the same; binds what that asks."""
        met = {}
        waiting = list(pairs)
        while waiting:
            one, other = waiting.pop()
            one, other = self.walk(one), self.walk(other)
            if one == other:
                continue
            if one.inner is None:
                if not self.set_same(one, other):
                    return False
            elif other.inner is None:
                if not self.set_same(other, one):
                    return False
            elif not are_headed_alike(one, other):
                return False
            elif one.inner and (one, other) not in met:
                # Terms that share their parts would be gone through again and again.
                met[one, other] = True
                waiting.extend(list(zip(one.inner, other.inner)))
        return True

    def set_same(self, unknown, node):
        """Binds an unknown to another term, unless it stands within that."""
        if node.inner is None and node.name == unknown.name:
            return True
        if node.inner and self.stands_in(unknown.name, node):
            return False
        self.bind(unknown.name, node)
        return True

    def may_be_same(self, patterns, nodes):
        """Whether patterns have no sign that is unlike the terms'; unknowns are passed over."""
        met = {}
        waiting = list(zip(patterns, nodes))
        while waiting:
            one, other = waiting.pop()
            other = self.walk(other)
            if one.inner is not None and other.inner is not None:
                if not are_headed_alike(one, other):
                    return False
                if one.inner and (one, other) not in met:
                    met[one, other] = True
                    waiting.extend(list(zip(one.inner, other.inner)))
        return True

    def asked_by(self, pairs):
        """How many unknowns more are bound if the pairs are made the same; None if they can't be."""
        mark = self.mark()
        can_be = self.make_same(pairs)
        many = self.mark() - mark
        self.undo(mark)
        return many if can_be else None

    def pending(self, inequations):
        """Those inequations that may still fail; None if one of them always does."""
        left = []
        for pairs in inequations:
            many = self.asked_by(pairs)
            if many == 0:
                return None
            if many is not None:
                left.append(pairs)
        return left

    def needed(self, nodes):
        """The names of the bound unknowns that terms come to."""
        found = {}
        seen = {}
        waiting = list(nodes)
        while waiting:
            node = waiting.pop()
            if node.is_ground or node in seen:
                continue
            seen[node] = True
            if node.inner is not None:
                waiting.extend(node.inner)
            elif node.name in self.bound and node.name not in found:
                found[node.name] = True
                waiting.append(self.bound[node.name])
        return list(found)

    def resolved(self, nodes, worth):
        """The terms with all that is bound put in; a dict's terms for unknowns without one."""
        built = {}
        waiting = list(nodes)
        while waiting:
            node = waiting[-1]
            inner = () if node.is_ground or node in built else self.inner_of(node)
            left = [part for part in inner if not part.is_ground and part not in built]
            if left:
                waiting.extend(left)
                continue
            waiting.pop()
            if inner and node.inner is None:
                built[node] = built.get(inner[0], inner[0])
            elif inner:
                built[node] = rebuilt(node, built)
            elif node.inner is None and node not in built:
                built[node] = worth.get(node.name, node)
        return [built.get(node, node) for node in nodes]

    def inner_of(self, node):
        """The parts of a term; of an unknown what it is bound to, if it is."""
        if node.inner is not None:
            return node.inner
        return (self.bound[node.name],) if node.name in self.bound else ()

    def solved(self, names):
        """The dict from names, of those that ascend here, to terms without them.

        Of unknowns that are the same the first one stands for all.
        """
        first = {}
        unknowns = [unknown_node(name) for name in names]
        for node in unknowns:
            end = self.walk(node)
            if end.inner is None:
                first.setdefault(end.name, node)
        nodes = self.resolved(unknowns, first)
        return {name: node for name, node in zip(names, nodes) if node.inner is not None or node.name != name}


def bound_by(pairs):
    """The dict, ascending, that a Solved has of pairs; None if they can't be the same."""
    bindings = Bindings()
    if not bindings.make_same(pairs):
        return None
    return bindings.solved(ascending_names(sides_of(pairs)))
