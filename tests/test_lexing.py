"""[15], as far as words go."""

import unittest

from proofsizes.errors import RelationError
from proofsizes.lexing import BadText, words_of


def told(text):
    return [(word.kind, word.worth) for word in words_of(text)]


def places(text):
    return [(word.line, word.column) for word in words_of(text)]


class WordsTest(unittest.TestCase):
    def check(self, text, *words):
        self.assertEqual(told(text), list(words) + [("end", None)])

    def bad(self, text, line, column):
        last = words_of(text)[-1]
        self.assertEqual((last.kind, last.line, last.column), ("bad", line, column))

    def test_signs(self):
        self.check("( ) , . = /=", *[("sign", sign) for sign in ("(", ")", ",", ".", "=", "/=")])
        self.check("(),.=/=", *[("sign", sign) for sign in ("(", ")", ",", ".", "=", "/=")])
        self.check("==/=", *[("sign", sign) for sign in ("=", "=", "/=")])
        for text in ("/", "/ =", "!", "A", "_", "\t", "\r", "%", "\u00e9", "\u0661", ":", "'", '"', "+1"):
            self.bad(text, 1, 1)

    def test_integers(self):
        for text, worth in (("0", 0), ("7", 7), ("-7", -7), ("999999", 999999), ("-999999", -999999), ("10", 10)):
            self.check(text, ("integer", worth))
        for text in ("00", "01", "-0", "-01", "-", "- 1", "1000000", "-1000000", "0000001", "--1", "-a"):
            self.bad(text, 1, 1)
        self.check("12ab", ("integer", 12), ("name", "ab"))
        self.check("1-2", ("integer", 1), ("integer", -2))
        self.check("-5.", ("integer", -5), ("sign", "."))

    def test_unknowns(self):
        for name in ("x", 0, 120, "if", "equal", "a1b2c3d4"):
            self.check("?" + str(name), ("unknown", name))
        for text in ("?", "? x", "?-1", "?01", "?00", "?1234567", "?X", "?$x", "??x", "?ninesigns", "?\nx", "?("):
            self.bad(text, 1, 1)
        self.check("?x?y", ("unknown", "x"), ("unknown", "y"))
        self.check("?1x", ("unknown", 1), ("name", "x"))

    def test_names(self):
        self.check("a abcdefgh a2", ("name", "a"), ("name", "abcdefgh"), ("name", "a2"))
        self.check("ifs askx equals", ("name", "ifs"), ("name", "askx"), ("name", "equals"))
        self.check("$abc $a1(x)", ("name", "abc"), ("name", "a1"), ("sign", "("), ("name", "x"), ("sign", ")"))
        for word in ("if", "ask", "equal", "unlike"):
            self.check(word, ("own", word))
            self.check("$" + word, ("name", word))
        for text in ("ninesigns", "$ninesigns", "$", "$ a", "$1", "$?x", "$$a", "$A"):
            self.bad(text, 1, 1)
        self.bad("aB", 1, 2)

    def test_blanks_line_feeds_and_remarks(self):
        self.check("")
        self.check(" \n  \n")
        self.check("# all of it isn't read: / A 007")
        self.check("a#b\nc # ?\n", ("name", "a"), ("name", "c"))
        self.check("a##\n#\nb", ("name", "a"), ("name", "b"))

    def test_places(self):
        self.assertEqual(places(""), [(1, 1)])
        self.assertEqual(places("ab"), [(1, 1), (1, 3)])
        self.assertEqual(places("ab\n"), [(1, 1), (2, 1)])
        found = [(1, 2), (1, 3), (1, 5), (3, 3), (3, 6), (3, 8), (4, 2), (4, 3)]
        self.assertEqual(places(" a, -12\n\n  ?x /=$if # no\n ."), found)
        self.assertEqual(places("a # b"), [(1, 1), (1, 6)])
        self.assertEqual(places("a\n# b\n  "), [(1, 1), (3, 3)])

    def test_nothing_is_read_behind_what_is_no_word(self):
        words = words_of("p(?x,\n 007) / $")
        self.assertEqual([(word.kind, word.line, word.column) for word in words[-2:]], [("sign", 1, 5), ("bad", 2, 2)])

    def test_no_string(self):
        for thing in (None, 3, True, ["a"], ("a",), {}, b"a"):
            with self.assertRaises(BadText) as caught:
                words_of(thing)
            self.assertEqual((caught.exception.line, caught.exception.column), (0, 0))

    def test_the_error(self):
        self.assertIs(BadText.__mro__[1], RelationError)
        self.assertEqual((BadText(2, 5).line, BadText(2, 5).column), (2, 5))


if __name__ == "__main__":
    unittest.main()
