"""Words of a text, read one by one into terms, goals, rules and questions."""

from proofsizes.lexing import BadText
from proofsizes.programs import MOST_GOALS, MOST_TERMS, OWN_NAMES, Question, Rule
from proofsizes.terms import MOST_WITHIN, is_term


def refuse(word):
    """Raises BadText for a word that can't stand where it stands."""
    raise BadText(word.line, word.column)


class Reader:
    """A row of words, of which one is to be read next; the last one is none, or the end."""

    def __init__(self, words):
        self.words = words
        self.at = 0

    def word(self):
        """The word that is to be read next."""
        return self.words[self.at]

    def is_at(self, kind, worth):
        """Whether the next word is a certain one."""
        word = self.word()
        return word.kind == kind and word.worth == worth

    def is_at_sign(self, *signs):
        """Whether the next word is one of some signs."""
        return self.word().kind == "sign" and self.word().worth in signs

    def read_word(self, kind, worth):
        """Reads a word that must stand here."""
        if not self.is_at(kind, worth):
            refuse(self.word())
        self.at += 1

    def read_end(self):
        """Asks that there are no more words."""
        if self.word().kind != "end":
            refuse(self.word())

    def read_term(self, level):
        """Reads a term that stands at a level, 1 for one by itself."""
        word = self.word()
        if level > MOST_WITHIN or word.kind not in ("integer", "unknown", "name"):
            refuse(word)
        self.at += 1
        if word.kind == "unknown":
            return "?", word.worth
        if word.kind == "name" and self.is_at_sign("("):
            return word.worth, self.read_parts(level + 1, None)
        return word.worth

    def read_parts(self, level, first):
        """Reads terms in brackets; of a rule's head the first word is refused if they are too many."""
        self.read_word("sign", "(")
        terms = [self.read_term(level)]
        while self.is_at_sign(","):
            self.at += 1
            terms.append(self.read_term(level))
            if first is not None and len(terms) > MOST_TERMS:
                refuse(first)
        self.read_word("sign", ")")
        return tuple(terms)

    def read_head(self):
        """Reads the head of a rule."""
        first = self.word()
        if first.kind != "name" or first.worth in OWN_NAMES:
            refuse(first)
        self.at += 1
        return first.worth, self.read_parts(1, first) if self.is_at_sign("(") else ()

    def read_goal(self):
        """Reads a goal, which may turn out to be one of a relation, or to begin with a term, behind its first part."""
        first = self.word()
        if first.kind == "name":
            self.at += 1
            # The bounds of a relation's terms are wider than those of a compound's.
            terms = self.read_parts(1, None) if self.is_at_sign("(") else ()
            one = (first.worth, terms) if terms else first.worth
        else:
            terms = ()
            one = self.read_term(1)
        if self.is_at_sign("=", "/="):
            return self.read_other_side(one)
        if first.kind != "name" or first.worth in OWN_NAMES or len(terms) > MOST_TERMS:
            refuse(self.word())
        return first.worth, terms

    def read_other_side(self, one):
        """Reads the rest of an equal or an unlike goal behind its first term."""
        if not is_term(one):
            refuse(self.word())
        name = "equal" if self.is_at_sign("=") else "unlike"
        self.at += 1
        return name, (one, self.read_term(1))

    def read_goals(self):
        """Reads the goals behind an `if`, and the point; the point alone, if there is no `if`."""
        goals = []
        if self.is_at("own", "if"):
            self.at += 1
            goals.append(self.read_goal())
            while self.is_at_sign(",") and len(goals) < MOST_GOALS:
                self.at += 1
                goals.append(self.read_goal())
        self.read_word("sign", ".")
        return goals

    def read_rule(self):
        """Reads a rule."""
        head = self.read_head()
        return Rule(head, self.read_goals())

    def read_question(self):
        """Reads a question."""
        self.read_word("own", "ask")
        terms = []
        if not self.is_at("own", "if") and not self.is_at_sign("."):
            terms.append(self.read_term(1))
            while self.is_at_sign(",") and len(terms) < MOST_TERMS:
                self.at += 1
                terms.append(self.read_term(1))
        return Question(terms, self.read_goals())
