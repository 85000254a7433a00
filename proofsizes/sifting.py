"""Rows of constants for a rule's unknowns by which all goals are so, where there may be far more by some of them.

Goals are gone through in an order in which few unknowns wait for goals behind at a time. What
is told of these alone has keys; each key is gone on with once, and from behind it is counted how many
rows come of it, so no row is begun that comes to none.
"""

from proofsizes.bindings import bound_by
from proofsizes.nodes import dict_of_terms
from proofsizes.programs import own_pairs, relation_goals, relation_of
from proofsizes.shelves import Shelf
from proofsizes.terms import is_unknown, names_in


class Sieve:
    """A goal of a relation: the names of its unknowns, and the rows of constants by which it is a fact."""

    def __init__(self, terms, rows):
        self.names = names_in(terms)
        first = {}
        for place, term in enumerate(terms):
            first.setdefault(term, place)
        places = [first["?", name] for name in self.names]
        same = [(place, first[term]) for place, term in enumerate(terms) if is_unknown(term)]
        known = [(place, term) for place, term in enumerate(terms) if not is_unknown(term)]
        self.rows = []
        for row in rows:
            if all([row[one] == row[other] for one, other in same]) and all([row[at] == term for at, term in known]):
                self.rows.append(tuple([row[place] for place in places]))

    def domains(self):
        """For each name the dict, to True, of the constants that it has by the rows."""
        return {name: {row[at]: True for row in self.rows} for at, name in enumerate(self.names)}

    def keep_within(self, domains):
        """Leaves those rows alone by which all names have constants of some domains; whether others went."""
        before = len(self.rows)
        for at, name in enumerate(self.names):
            self.rows = [row for row in self.rows if row[at] in domains[name]]
        return len(self.rows) < before


class Plan:
    """The order of sieves by which the fewest keys are to be gone on with, as far as bounds tell.

    Sets of sieves, and sets of names, are kept as bits of an integer.
    """

    def __init__(self, sieves, domains, unlikes):
        self.sieves = sieves
        self.places = {name: at for at, name in enumerate(domains)}
        self.many = [len(domains[name]) for name in domains]
        self.bits = [self.bits_of(sieve.names) for sieve in sieves]
        self.unlikes = [self.bits_of(names) for names in unlikes]
        self.every = (1 << len(sieves)) - 1
        self.names = [self.together(group) for group in range(self.every + 1)]

    def bits_of(self, names):
        """The bits for some names."""
        found = 0
        for name in names:
            found |= 1 << self.places[name]
        return found

    def together(self, group):
        """The names of a group of sieves."""
        found = 0
        for at, bits in enumerate(self.bits):
            if group >> at & 1:
                found |= bits
        return found

    def waiting(self, group):
        """The names of a group of sieves for which something is still to be asked."""
        asked = self.names[self.every ^ group]
        for pair in self.unlikes:
            if pair & ~self.names[group]:
                asked |= pair
        return self.names[group] & asked

    def most_keys(self, names, group):
        """A number that rows of constants for some names, by a group of sieves, aren't above."""
        best = None
        for some in range(group + 1):
            if some & group == some:
                many = self.rows_of_group(some, names) * self.ways_of(names & ~self.names[some])
                best = many if best is None else min(best, many)
        return best

    def rows_of_group(self, some, names):
        """The product of how many rows some sieves have that are of some names."""
        found = 1
        for at, sieve in enumerate(self.sieves):
            if some >> at & 1 and self.bits[at] & names:
                found = found * len(sieve.rows)
        return found

    def ways_of(self, names):
        """The product of how many constants some names may have."""
        found = 1
        for at, many in enumerate(self.many):
            if names >> at & 1:
                found = found * many
        return found

    def order(self):
        """The list of the numbers of all sieves, in the order with the least sum of bounds."""
        best = {0: (0, [])}
        for group in range(self.every):
            cost, order = best[group]
            names = self.waiting(group)
            for at, bits in enumerate(self.bits):
                longer = group | 1 << at
                if longer != group:
                    more = cost + self.most_keys(names | bits, longer)
                    if longer not in best or more < best[longer][0]:
                        best[longer] = (more, order + [at])
        return best[self.every][1]


class Step:
    """A sieve behind others: what keys ahead of it come to by its rows."""

    def __init__(self, sieve, known, waiting, unlikes):
        shared = [at for at, name in enumerate(sieve.names) if name in known]
        self.fresh = [name for name in sieve.names if name not in known]
        columns = [at for at, name in enumerate(sieve.names) if name not in known]
        names = known + self.fresh
        self.lookups = [known.index(sieve.names[at]) for at in shared]
        self.matches = {}
        for row in sieve.rows:
            key = tuple([row[at] for at in shared])
            self.matches.setdefault(key, []).append(tuple([row[at] for at in columns]))
        self.kept = [at for at, name in enumerate(names) if name in waiting]
        self.names = [names[at] for at in self.kept]
        self.unlikes = [[lookup_in(term, names) for term in pair] for pair in unlikes]

    def behind(self, key):
        """The list of pairs of constants for the new names, and the key behind, for a key."""
        found = []
        for row in self.matches.get(tuple([key[at] for at in self.lookups]), []):
            both = key + row
            if not any([looked_in(one, both) == looked_in(other, both) for one, other in self.unlikes]):
                found.append((row, tuple([both[at] for at in self.kept])))
        return found


def lookup_in(term, names):
    """A place among names, and None; or None, and a constant."""
    return (names.index(term[1]), None) if is_unknown(term) else (None, term)


def looked_in(lookup, row):
    """What stands in a place of a row, or a constant."""
    at, constant = lookup
    return constant if at is None else row[at]


def sifted(goals, names, facts, most):
    """The list of all rows of constants for names of unknowns by which goals are so; None for more than most."""
    solved = bound_by(Shelf().pairs_of(own_pairs(goals, "equal")))
    if solved is None:
        return []
    bound = dict_of_terms(solved)
    unlikes = [tuple(placed_in(pair, bound)) for pair in own_pairs(goals, "unlike")]
    if any([one == other for one, other in unlikes]):
        return []
    unlikes = [pair for pair in unlikes if names_in(pair)]
    sieves = [Sieve(placed_in(goal[1], bound), facts.all_rows(relation_of(goal))) for goal in relation_goals(goals)]
    domains = narrowed(sieves)
    plan = Plan(sieves, domains, [names_in(pair) for pair in unlikes])
    steps = steps_for(sieves, plan, unlikes)
    rows = rows_by_steps(steps, most)
    if rows is None:
        return None
    told = [name for step in steps for name in step.fresh]
    lookups = [lookup_in(bound.get(name, ("?", name)), told) for name in names]
    return [tuple([looked_in(lookup, row) for lookup in lookups]) for row in rows]


def placed_in(terms, bound):
    """The list of terms, which are no compounds, with those of a dict in place of the unknowns that it names."""
    return [bound.get(term[1], term) if is_unknown(term) else term for term in terms]


def narrowed(sieves):
    """Leaves rows of sieves whose constants may stand in the others alone; the dict from names to these constants."""
    is_over = False
    while not is_over:
        domains = {}
        for sieve in sieves:
            own = sieve.domains()
            for name in own:
                ahead = domains.get(name, own[name])
                domains[name] = {one: True for one in own[name] if one in ahead}
        # All sieves are asked, so that each is narrowed in one round.
        is_over = not any([sieve.keep_within(domains) for sieve in sieves])
    return domains


def steps_for(sieves, plan, unlikes):
    """The list of steps through sieves in the order of a plan; an unlike pair is asked as soon as it can be."""
    steps = []
    known = []
    met = {}
    group = 0
    left = list(unlikes)
    for at in plan.order():
        group |= 1 << at
        for name in sieves[at].names:
            met[name] = True
        ready = [pair for pair in left if all([name in met for name in names_in(pair)])]
        left = [pair for pair in left if pair not in ready]
        waiting = plan.waiting(group)
        names = {name: True for name in plan.places if waiting >> plan.places[name] & 1}
        step = Step(sieves[at], known, names, ready)
        known = step.names
        steps.append(step)
    return steps


def rows_by_steps(steps, most):
    """The list of all rows of constants for the names that steps tell in turn; None for more than most."""
    levels = [[()]]
    for step in steps:
        levels.append(list({after: True for key in levels[-1] for _, after in step.behind(key)}))
    counts = [{key: 1 for key in levels[-1]}]
    for step, keys in list(zip(steps, levels))[::-1]:
        ahead = counts[-1]
        counts.append({key: sum([ahead[after] for _, after in step.behind(key)]) for key in keys})
    if counts[-1][()] > most:
        return None
    rows = [((), ())]
    for step, behind in zip(steps, counts[-2::-1]):
        longer = []
        for row, key in rows:
            longer.extend([(row + more, after) for more, after in step.behind(key) if behind[after]])
        rows = longer
    return [row for row, _ in rows]
