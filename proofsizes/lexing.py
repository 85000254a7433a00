"""How texts fall into words, and the place of one that can't stand where it stands."""

from proofsizes.errors import RelationError
from proofsizes.terms import FIGURES, LETTERS, MOST_SIGNS

OWN_WORDS = ("if", "ask", "equal", "unlike")
SINGLE_SIGNS = "(),.="
MOST_FIGURES = 6


class BadText(RelationError):
    """The line and the column, from 1 on, of what can't stand there; both 0 for what is no string."""

    def __init__(self, line, column):
        self.line = line
        self.column = column


class Word:
    """A word of a text and its place.

    Its kind is "sign", "integer", "unknown", "name", "own" (one of the words that are no
    names by themselves), "bad" for what is no word, or "end" behind the text.
    """

    def __init__(self, kind, worth, line, column):
        self.kind = kind
        self.worth = worth
        self.line = line
        self.column = column


def words_of(text, line=1):
    """The list of a text's words up to its end, or up to the first thing that is no word.

    The text may be one line of several, with a number.
    """
    if not isinstance(text, str):
        raise BadText(0, 0)
    words = []
    start = 0
    at = 0
    while at < len(text):
        if text[at] == "#":
            at = end_of_line(text, at)
        elif text[at] == "\n":
            at += 1
            line, start = line + 1, at
        elif text[at] == " ":
            at += 1
        else:
            kind, worth, end = word_at(text, at)
            words.append(Word(kind, worth, line, at - start + 1))
            if kind == "bad":
                return words
            at = end
    words.append(Word("end", None, line, at - start + 1))
    return words


def end_of_line(text, at):
    """The place of the next line feed, or of the text's end."""
    end = text.find("\n", at)
    return len(text) if end == -1 else end


def word_at(text, at):
    """The kind and the worth of the word that begins at a place, and the place behind it."""
    sign = text[at]
    if sign in SINGLE_SIGNS:
        return "sign", sign, at + 1
    if text[at:at + 2] == "/=":
        return "sign", "/=", at + 2
    if sign in FIGURES or sign == "-":
        return integer_at(text, at)
    if sign == "?":
        return unknown_at(text, at)
    if sign == "$":
        return name_at(text, at + 1)
    kind, worth, end = name_at(text, at)
    return ("own", worth, end) if worth in OWN_WORDS else (kind, worth, end)


def integer_at(text, at):
    """The integer that begins at a place, with its sign."""
    first = at + 1 if text[at] == "-" else at
    end = behind(text, first, FIGURES)
    if not 1 <= end - first <= MOST_FIGURES:
        return "bad", None, end
    # A zero stands by itself alone, and not below 0.
    if text[first] == "0" and (end - first > 1 or first > at):
        return "bad", None, end
    return "integer", int(text[at:end]), end


def unknown_at(text, at):
    """The unknown that begins at a place, with what it is called behind its sign."""
    following = text[at + 1:at + 2]
    if following != "" and following in FIGURES:
        kind, worth, end = integer_at(text, at + 1)
    else:
        kind, worth, end = name_at(text, at + 1)
    return ("bad", None, end) if kind == "bad" else ("unknown", worth, end)


def name_at(text, at):
    """The name that begins at a place, as far as it goes."""
    end = behind(text, at, LETTERS + FIGURES)
    if not 1 <= end - at <= MOST_SIGNS or text[at] not in LETTERS:
        return "bad", None, end
    return "name", text[at:end], end


def behind(text, at, signs):
    """The place behind all that is made of some signs from a place on."""
    while at < len(text) and text[at] in signs:
        at += 1
    return at
