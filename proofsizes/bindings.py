"""Terms for unknowns, as equations ask them, with a way back."""

from proofsizes.terms import ascending_names, have_like_heads, is_compound, is_unknown
from proofsizes.terms import names_in, put_in, put_in_row, sides_of


class Bindings:
    """A dict from names of unknowns to terms, in which bound unknowns may stand in turn.

    What is bound is noted in order, so that a search can take back all behind a mark.
    """

    def __init__(self):
        self.bound = {}
        self.trail = []

    def mark(self):
        """How much is bound; undo leaves so much."""
        return len(self.trail)

    def begin(self, bound):
        """Goes on with what a dict tells; none of that can be taken back."""
        self.bound = bound
        self.trail = []

    def undo(self, mark):
        """Takes back all that was bound behind a mark."""
        while len(self.trail) > mark:
            del self.bound[self.trail.pop()]

    def bind(self, name, term):
        """Notes a term for an unknown that has none."""
        self.bound[name] = term
        self.trail.append(name)

    def walk(self, term):
        """The term itself, or what an unknown stands for, as far as its head is known."""
        while is_unknown(term) and term[1] in self.bound:
            term = self.bound[term[1]]
        return term

    def stands_in(self, name, term):
        """Whether an unknown without a term stands in what a term comes to."""
        seen = set()
        waiting = [term]
        while waiting:
            part = waiting.pop()
            if is_compound(part):
                waiting.extend(part[1])
            elif is_unknown(part) and part[1] not in seen:
                if part[1] == name:
                    return True
                seen.add(part[1])
                if part[1] in self.bound:
                    waiting.append(self.bound[part[1]])
        return False

    def make_same(self, pairs):
        """Whether both sides of all pairs can be the same; binds what that asks."""
        met = set()
        waiting = list(pairs)
        while waiting:
            one, other = waiting.pop()
            if is_unknown(one) and is_unknown(other):
                # Terms that share their parts would be gone through again and again.
                if (one[1], other[1]) in met:
                    continue
                met.add((one[1], other[1]))
            one, other = self.walk(one), self.walk(other)
            if is_unknown(one):
                if one != other and not self.set_same(one, other):
                    return False
            elif is_unknown(other):
                if not self.set_same(other, one):
                    return False
            elif is_compound(one) and have_like_heads(one, other):
                waiting.extend(list(zip(one[1], other[1])))
            elif is_compound(one) or one != other:
                return False
        return True

    def may_be_same(self, patterns, terms):
        """Whether patterns have no sign that is unlike the terms'; unknowns are passed over."""
        waiting = list(zip(patterns, terms))
        while waiting:
            one, other = waiting.pop()
            other = self.walk(other)
            if is_unknown(one) or is_unknown(other):
                continue
            if is_compound(one):
                if not have_like_heads(one, other):
                    return False
                waiting.extend(list(zip(one[1], other[1])))
            elif one != other:
                return False
        return True

    def set_same(self, unknown, term):
        """Binds an unknown to another term, unless it stands within that."""
        if is_compound(term) and self.stands_in(unknown[1], term):
            return False
        self.bind(unknown[1], term)
        return True

    def asked_by(self, pairs):
        """How many unknowns more are bound if the pairs are made the same; None if they can't be."""
        mark = self.mark()
        can_be = self.make_same(pairs)
        many = self.mark() - mark
        self.undo(mark)
        return many if can_be else None

    def pending(self, inequations):
        """Those inequations that may still fail; None if one of them always does."""
        left = []
        for pairs in inequations:
            many = self.asked_by(pairs)
            if many == 0:
                return None
            if many is not None:
                left.append(pairs)
        return left

    def needed(self, terms):
        """The bound unknowns that terms come to, each behind those in its own term."""
        done = {}
        waiting = names_in(terms)
        while waiting:
            name = waiting[-1]
            ahead = []
            if name in self.bound and name not in done:
                inner = names_in([self.bound[name]])
                ahead = [other for other in inner if other in self.bound and other not in done]
            if ahead:
                waiting.extend(ahead)
            else:
                if name in self.bound:
                    done[name] = True
                waiting.pop()
        return list(done)

    def resolved(self, terms, worth):
        """The terms with all that is bound put in; a dict's terms for unknowns without one."""
        worth = dict(worth)
        for name in self.needed(terms):
            worth[name] = put_in(self.bound[name], worth)
        return put_in_row(terms, worth)

    def solved(self, names):
        """The dict from names, of those that ascend here, to terms without them.

        Of unknowns that are the same the first one stands for all.
        """
        first = {}
        for name in names:
            end = self.walk(("?", name))
            if is_unknown(end):
                first.setdefault(end[1], ("?", name))
        terms = self.resolved([("?", name) for name in names], first)
        return {name: term for name, term in zip(names, terms) if term != ("?", name)}


def bound_by(pairs):
    """The dict, ascending, that a Solved has of pairs; None if they can't be the same."""
    bindings = Bindings()
    if not bindings.make_same(pairs):
        return None
    return bindings.solved(ascending_names(sides_of(pairs)))
