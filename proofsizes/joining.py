"""Facts, rows of constants that are put in for a flat rule's unknowns, and what rules make of facts."""

from proofsizes.errors import TooLarge
from proofsizes.programs import own_pairs, relation_goals, relation_of
from proofsizes.sifting import sifted
from proofsizes.terms import constant_key, is_unknown, names_in

MOST_FACTS = 2000
MOST_ROWS = 200000
# Up to so many rows are gone on with in the simplest way.
FEW_ROWS = 10000
FAR_TOO_MANY = 50000


def fact_key(fact):
    """By this facts ascend: by relation, number of terms, then terms."""
    return fact[0], len(fact[1]), tuple([constant_key(term) for term in fact[1]])


def ascending_facts(facts):
    """The list of facts in their order."""
    return sorted(facts, key=fact_key)


class Facts:
    """Facts, with tables to look them up by what is known of their terms."""

    def __init__(self):
        self.known = {}
        self.rows = {}
        self.tables = {}

    def has_fact(self, fact):
        """Whether it is one of the facts."""
        return fact in self.known

    def include(self, fact):
        """Takes a fact in; whether it is new."""
        if fact in self.known:
            return False
        relation = relation_of(fact)
        self.known[fact] = True
        self.rows.setdefault(relation, []).append(fact[1])
        for shape in list(self.tables.get(relation, {})):
            enter(self.tables[relation][shape], shape, fact[1])
        return True

    def include_all(self, facts):
        """Takes all of some facts in."""
        for fact in facts:
            self.include(fact)

    def all_rows(self, relation):
        """The list of the rows of a relation's facts."""
        return self.rows.get(relation, [])

    def many_of(self, relation):
        """How many facts of a relation there are."""
        return len(self.all_rows(relation))

    def table_for(self, relation, shape):
        """The dict from what stands in known places to the rows of a relation, for a shape of a goal."""
        tables = self.tables.setdefault(relation, {})
        if shape not in tables:
            tables[shape] = {}
            for row in self.all_rows(relation):
                enter(tables[shape], shape, row)
        return tables[shape]


def enter(table, shape, row):
    """Enters a row in a table, if what is to be the same in it is."""
    places, same = shape
    if all([row[one] == row[other] for one, other in same]):
        table.setdefault(tuple([row[place] for place in places]), []).append(row)


class Asked:
    """A relation goal of a flat rule, behind others: what is known of its terms, and which unknowns are new."""

    def __init__(self, goal, columns):
        self.relation = relation_of(goal)
        self.lookups = []
        self.places = []
        first = {}
        known = []
        same = []
        for place, term in enumerate(goal[1]):
            if is_unknown(term) and term[1] not in columns:
                if term[1] in first:
                    same.append((first[term[1]], place))
                else:
                    first[term[1]] = place
                    self.places.append(place)
            else:
                known.append(place)
                self.lookups.append(lookup_of(term, columns))
        for name in first:
            columns[name] = len(columns)
        self.shape = (tuple(known), tuple(same))


def lookup_of(term, columns):
    """A column, and None for no constant; or None, and a constant."""
    return (columns[term[1]], None) if is_unknown(term) else (None, term)


def looked_up(lookups, row):
    """The tuple of what stands in columns of a row, or of constants."""
    return tuple([constant if at is None else row[at] for at, constant in lookups])


class FlatRule:
    """A flat rule, ready for facts to be taken for its goals; some goals must be no facts."""

    def __init__(self, rule, nots):
        columns = {}
        first = {}
        self.asked = [Asked(goal, columns) for goal in narrow_first(relation_goals(rule.goals))]
        self.standing = [Asked(goal, first) for goal in relation_goals(rule.goals)]
        self.names = list(columns)
        self.rule = rule
        self.head = looked(rule.head, columns)
        self.goals = [looked(goal, columns) for goal in relation_goals(rule.goals)]
        self.nots = [looked(goal, columns) for goal in nots]
        self.equals = [lookups_of(pair, columns) for pair in own_pairs(rule.goals, "equal")]
        self.unlikes = [lookups_of(pair, columns) for pair in own_pairs(rule.goals, "unlike")]

    def counts(self, facts):
        """How many facts there are for each goal."""
        return tuple([facts.many_of(asked.relation) for asked in self.asked])

    def rows_by(self, facts):
        """The list of all rows of constants for the unknowns by which all goals are so."""
        rows, _ = joined_rows(self.asked, facts, FEW_ROWS)
        if rows is None:
            rows = self.rows_of_many(facts)
        return [row for row in rows if self.is_let(row, facts)]

    def rows_of_many(self, facts):
        """The same, where some of the goals have many rows; raises TooLarge if all of them have too many."""
        found = sifted(self.rule.goals, self.names, facts, MOST_ROWS)
        if found is None:
            _, many = joined_rows(self.standing, facts, MOST_ROWS)
            # Where there are too many facts, these are told first.
            raise TooLarge(len(facts.known) if len(facts.known) > MOST_FACTS else many)
        return found

    def is_let(self, row, facts):
        """Whether by a row equal, unlike and barred goals are so."""
        if any([are_same_by(pair, row) for pair in self.unlikes]):
            return False
        if not all([are_same_by(pair, row) for pair in self.equals]):
            return False
        return not any([facts.has_fact(fact_by(goal, row)) for goal in self.nots])

    def heads_by(self, facts):
        """The list of the facts that the rule makes."""
        return [fact_by(self.head, row) for row in self.rows_by(facts)]


def joined_rows(row_of_asked, facts, most):
    """The rows of constants by which goals are so, one after another, and 0; or None, and how many are above most."""
    rows = [()]
    for asked in row_of_asked:
        table = facts.table_for(asked.relation, asked.shape)
        found = [(row, table.get(looked_up(asked.lookups, row), [])) for row in rows]
        many = sum([len(behind) for _, behind in found])
        if many > most:
            return None, many
        places = asked.places
        rows = [row + tuple([fact[place] for place in places]) for row, behind in found for fact in behind]
    return rows, 0


def narrow_first(goals):
    """The list of goals, next each time the one with the fewest new unknowns, then the most terms that are known.

    So there are few rows on the way to those by which all goals are so.
    """
    rest = list(goals)
    known = {}
    found = []
    while rest:
        keys = [(len(new_names(goal, known)), -len(goal[1]), at) for at, goal in enumerate(rest)]
        goal = rest[min(keys)[2]]
        del rest[min(keys)[2]]
        for name in new_names(goal, known):
            known[name] = True
        found.append(goal)
    return found


def new_names(goal, known):
    """The names of the unknowns of a goal that are not known."""
    return [name for name in names_in(goal[1]) if name not in known]


def lookups_of(terms, columns):
    """Where terms are to be looked up."""
    return [lookup_of(term, columns) for term in terms]


def looked(goal, columns):
    """A goal's name, and where its terms are to be looked up."""
    return goal[0], lookups_of(goal[1], columns)


def are_same_by(pair, row):
    """Whether both sides of a pair, that are to be looked up, are the same by a row."""
    one, other = looked_up(pair, row)
    return one == other


def fact_by(goal, row):
    """The fact that a goal is by a row."""
    return goal[0], looked_up(goal[1], row)


def add_all_made(rules, facts, behind):
    """Takes all in that rules make of facts, again and again; raises TooLarge for too many facts.

    A dict tells how many facts of its goals a rule has been asked with.
    """
    is_over = False
    while not is_over:
        made = []
        for at, rule in enumerate(rules):
            counts = rule.counts(facts)
            if behind.get(at) != counts:
                behind[at] = counts
                made.extend(rule.heads_by(facts))
        before = len(facts.known)
        facts.include_all(made)
        is_over = len(facts.known) == before or len(facts.known) > FAR_TOO_MANY
    if len(facts.known) > MOST_FACTS:
        raise TooLarge(len(facts.known))
