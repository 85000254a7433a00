"""Terms as tuples, gone through place by place: simple and slow ways to what the package does on nodes."""

from proofsizes.terms import is_compound, is_integer, is_unknown, names_in, name_key, parts_of


def sign_key(part):
    if is_unknown(part):
        return (2, name_key(part[1]))
    if is_compound(part):
        return (3, len(part[1]), part[0])
    return (0, part) if is_integer(part) else (1, part)


def terms_key(terms):
    """By this rows of terms ascend."""
    return tuple(sign_key(part) for term in terms for part in parts_of(term))


def pairs_key(pairs):
    return terms_key([side for pair in pairs for side in pair])


def answer_key(answer):
    """By this the answers of one size ascend; it is the same for equal answers alone."""
    terms = terms_key(answer.terms)
    return (len(terms), terms, len(answer.inequations), tuple(pairs_key(pairs) for pairs in answer.inequations))


def put_in(term, worth):
    """A term with the terms of a dict in place of the unknowns that it names."""
    if is_unknown(term):
        return worth.get(term[1], term)
    return (term[0], tuple(put_in(part, worth) for part in term[1])) if is_compound(term) else term


def matched(patterns, terms, worth):
    """More than a dict's terms for unknowns, by which patterns are the terms; None without any."""
    found = dict(worth)
    waiting = list(zip(patterns, terms))
    while waiting:
        pattern, term = waiting.pop()
        if is_unknown(pattern):
            if found.setdefault(pattern[1], term) != term:
                return None
        elif is_compound(pattern) and is_compound(term) and pattern[0] == term[0] and len(pattern[1]) == len(term[1]):
            waiting.extend(zip(pattern[1], term[1]))
        elif pattern != term:
            return None
    return found


class Binding:
    """Terms for unknowns, as equations ask them, each with all others put in."""

    def __init__(self):
        self.bound = {}

    def make_same(self, pairs):
        waiting = list(pairs)
        while waiting:
            one, other = (put_in(side, self.bound) for side in waiting.pop())
            if one == other:
                continue
            if is_unknown(other) and not is_unknown(one):
                one, other = other, one
            if is_unknown(one):
                if one[1] in names_in([other]):
                    return False
                self.bound = {name: put_in(term, {one[1]: other}) for name, term in self.bound.items()}
                self.bound[one[1]] = other
            elif is_compound(one) and is_compound(other) and one[0] == other[0] and len(one[1]) == len(other[1]):
                waiting.extend(zip(one[1], other[1]))
            else:
                return False
        return True

    def always_fails(self, pairs):
        return all(put_in(one, self.bound) == put_in(other, self.bound) for one, other in pairs)

    def resolved(self, terms):
        return [put_in(term, self.bound) for term in terms]
