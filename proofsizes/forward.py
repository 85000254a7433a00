"""Facts from below: the answers of each relation by the sizes of their proofs, built up from smaller ones."""

from proofsizes.answers import ascending_answers, unlike_answers
from proofsizes.bindings import Bindings
from proofsizes.meeting import resolved_answer
from proofsizes.nodes import names_in, numbered, put_in, put_in_pairs
from proofsizes.programs import check_count, relation_of
from proofsizes.ways import Ready


def facts_of_size(program, size):
    """The dict from relations, ascending, to the lists of the unlike answers that proofs of a size give."""
    check_count(size, "size")
    rules = [(relation_of(rule.head), Ready(rule.head[1], rule.goals)) for rule in program.rules]
    smaller = [{}]
    for _ in range(size):
        smaller.append(facts_behind(rules, smaller))
    return smaller[size]


def facts_behind(rules, smaller):
    """The facts of the next size, by those of all smaller ones."""
    found = {}
    for relation, rule in rules:
        made = Making(rule, smaller).made()
        if made:
            found[relation] = found.get(relation, []) + made
    return {relation: ascending_answers(unlike_answers(found[relation])) for relation in sorted(found)}


class Stage:
    """A rule with facts for some goals: how many, the sizes that are left, the next new unknown, inequations."""

    def __init__(self, goals, rest, fresh, unlikes):
        self.goals = goals
        self.rest = rest
        self.fresh = fresh
        self.unlikes = unlikes


class Making:
    """A rule, and facts that are taken for its goals, so that their sizes and it make the next size."""

    def __init__(self, rule, smaller):
        self.rule = rule
        self.smaller = smaller
        self.bindings = Bindings()
        self.used = rule.with_unknowns(0)
        self.asked = self.used.goals_asked()

    def made(self):
        """The answers of the rule's head, by all facts that may be taken."""
        found = []
        waiting = []
        stage = self.first()
        while stage is not None or waiting:
            if stage is not None and stage.goals < len(self.asked):
                mark = self.bindings.mark()
                waiting.extend([(mark, stage, size, fact) for size, fact in self.choices(stage)])
            elif stage is not None and stage.rest == 0:
                found.append(self.answer_at(stage))
            stage = None
            if waiting:
                mark, before, size, fact = waiting.pop()
                self.bindings.undo(mark)
                stage = self.behind(before, size, fact)
        return found

    def first(self):
        """The stage without facts; None if the rule's own goals can't be so."""
        if not self.bindings.make_same(self.used.pairs_equal()):
            return None
        unlikes = self.bindings.pending(self.used.pairs_unlike())
        if unlikes is None:
            return None
        return Stage(0, len(self.smaller) - 1, len(self.rule.names), unlikes)

    def choices(self, stage):
        """The facts that may be taken for the next goal, each with its size."""
        relation, terms = self.asked[stage.goals]
        others = len(self.asked) - stage.goals - 1
        found = []
        # The last goal's size is what is left; each goal ahead leaves 1 at least to those behind it.
        for size in range(1 if others else max(1, stage.rest), stage.rest - others + 1):
            for fact in self.smaller[size].get(relation, []):
                if self.bindings.may_be_same(fact.form.terms, terms):
                    found.append((size, fact))
        return found

    def behind(self, stage, size, fact):
        """The stage behind a fact that is taken for the next goal; None if what is asked can't be so."""
        form = fact.form
        names = names_in(form.terms)
        worth = numbered(names, stage.fresh)
        terms = self.asked[stage.goals][1]
        if not self.bindings.make_same(list(zip(put_in(form.terms, worth), terms))):
            return None
        unlikes = self.bindings.pending(stage.unlikes + [put_in_pairs(pairs, worth) for pairs in form.rows])
        if unlikes is None:
            return None
        return Stage(stage.goals + 1, stage.rest - size, stage.fresh + len(names), unlikes)

    def answer_at(self, stage):
        """The answer of the rule's head when all goals have facts."""
        return resolved_answer(self.bindings, self.used.head_terms(), stage.unlikes)
