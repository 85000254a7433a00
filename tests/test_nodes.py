"""Terms as nodes: the same as place by place, but with shared parts gone through once."""

import itertools
import random
import unittest
from unittest import mock

from proofsizes.bindings import Bindings, bound_by
from proofsizes.nodes import are_alike, count_signs, dict_of_terms, made_node, matched, names_in, numbered, open_nodes
from proofsizes.nodes import put_in, put_in_pairs, terms_of, unknown_node, unlike_constants, unlike_nodes, unused_integer
from proofsizes.ordering import ascending, ascending_by_signs, first_signs, is_below
from proofsizes.shelves import Shelf
from proofsizes import terms
from tests import plain
from tests.samples import X, Y
from tests.shared import parted, shared


def random_term(source, levels):
    if levels == 0 or source.random() < 0.3:
        return source.choice(["a", "b", 0, -1, X, Y, ("?", 0), ("?", 7)])
    return source.choice("fg"), tuple(random_term(source, levels - 1) for _ in range(source.randrange(1, 4)))


def random_nodes(source, many):
    """Terms of nodes that share parts in one place and have copies of them in others, each with its tuple."""
    known = [(made_node("a", ()), "a"), (made_node(3, ()), 3), (unknown_node("x"), X), (unknown_node(0), ("?", 0))]
    for _ in range(many):
        row = [source.choice(known) for _ in range(source.randrange(1, 4))]
        name = source.choice("fg")
        known.append((made_node(name, tuple(node for node, _ in row)), (name, tuple(term for _, term in row))))
        if source.random() < 0.3:
            known.append((Shelf().node_of(known[-1][1]), known[-1][1]))
    return known


class NodesTest(unittest.TestCase):
    def test_there_and_back(self):
        source = random.Random(1009)
        for _ in range(200):
            row = [random_term(source, 3) for _ in range(source.randrange(4))]
            nodes = Shelf().nodes_of(row)
            self.assertEqual(terms_of(nodes), row)
            self.assertEqual(names_in(nodes), terms.names_in(row))
            self.assertEqual([node.is_ground for node in nodes], [not terms.has_unknown(term) for term in row])
            self.assertEqual(count_signs(nodes), sum(len(terms.parts_of(term)) for term in row))

    def test_shelves_have_each_term_once(self):
        source = random.Random(1013)
        for _ in range(100):
            shelf = Shelf()
            row = [random_term(source, 3) for _ in range(6)]
            nodes = shelf.nodes_of(row)
            for (one, first), (other, second) in itertools.product(zip(row, nodes), repeat=2):
                self.assertIs(one == other, first is second)
            self.assertEqual(shelf.copies_of(Shelf().nodes_of(row)), nodes)
            parts = {part for term in row for part in terms.parts_of(term)}
            self.assertEqual(len(unlike_nodes(nodes)), len(parts))
            self.assertEqual(set(terms_of(open_nodes(nodes))), {part for part in parts if terms.has_unknown(part)})

    def test_large_terms_come_by_their_parts(self):
        source = random.Random(1019)
        for few in (1, 2, 5):
            with mock.patch("proofsizes.shelves.FEW_STEPS", few), mock.patch("proofsizes.sharing.FEW_PLACES", few), mock.patch("proofsizes.terms.FEW_STEPS", few):
                for _ in range(60):
                    known = [term for _, term in random_nodes(source, 12)][-4:]
                    shelf = Shelf()
                    nodes = shelf.nodes_of(known)
                    self.assertEqual(terms_of(nodes), known)
                    self.assertEqual(shelf.nodes_if_terms(known, None), nodes)
                    self.assertIs(shelf.nodes_if_terms(known + [True], None), None)
                    self.assertIs(shelf.nodes_if_terms([("f", tuple(known) + (None,))], None), None)
                    deepest = max(levels(term) for term in known)
                    self.assertEqual(shelf.nodes_if_terms(known, deepest), nodes)
                    self.assertIs(shelf.nodes_if_terms(known, deepest - 1), None)

    def test_what_is_the_same_is_one_tuple(self):
        source = random.Random(1021)
        for _ in range(50):
            known = random_nodes(source, 15)
            told = terms_of([node for node, _ in known])
            self.assertEqual(told, [term for _, term in known])
            found = {}
            for term in told:
                for part in terms.parts_of(term):
                    self.assertIs(found.setdefault(part, part), part)

    def test_put_in(self):
        source = random.Random(1031)
        for _ in range(100):
            known = random_nodes(source, 10)
            worth = {"x": random_term(source, 2), 7: "b"}
            inner = {name: Shelf().node_of(term) for name, term in worth.items()}
            nodes = [node for node, _ in known]
            expected = [plain.put_in(term, worth) for _, term in known]
            self.assertEqual(terms_of(put_in(nodes, inner)), expected)
            shelf = Shelf()
            self.assertEqual(terms_of(shelf.put_in(nodes, {name: shelf.node_of(term) for name, term in worth.items()})), expected)
            self.assertEqual(dict_of_terms(inner), worth)
            pairs = list(zip(nodes, nodes[::-1]))
            self.assertEqual([tuple(terms_of(pair)) for pair in put_in_pairs(pairs, inner)], list(zip(expected, expected[::-1])))
        self.assertEqual(terms_of([numbered(["x", 4], 3)[name] for name in ("x", 4)]), [("?", 3), ("?", 4)])

    def test_what_stays_is_not_made_anew(self):
        node = Shelf().node_of(("f", (("g", (X,)), ("g", ("a",)))))
        self.assertIs(put_in([node], {"y": made_node("a", ())})[0], node)
        self.assertIs(put_in([node], {"x": made_node("a", ())})[0].inner[1], node.inner[1])

    def test_alike(self):
        source = random.Random(1033)
        for _ in range(40):
            known = random_nodes(source, 10)
            for (one, first), (other, second) in itertools.product(known, repeat=2):
                self.assertIs(are_alike([(one, other)]), first == second)

    def test_matched(self):
        source = random.Random(1039)
        kinds = [0, 0]
        for _ in range(2000):
            patterns, row = [random_term(source, 2) for _ in range(2)], [random_term(source, 2) for _ in range(2)]
            if source.random() < 0.5:
                row = [plain.put_in(term, {name: random_term(source, 1) for name in terms.names_in(patterns)}) for term in patterns]
            found = matched(Shelf().nodes_of(patterns), Shelf().nodes_of(row), {})
            self.assertEqual(None if found is None else dict_of_terms(found), plain.matched(patterns, row, {}))
            kinds[found is None] += 1
        self.assertGreater(min(kinds), 300)

    def test_constants(self):
        nodes = Shelf().nodes_of([("f", (7, "a")), -9, ("?", 99)])
        self.assertEqual(unused_integer(nodes), 8)
        self.assertEqual(unused_integer(Shelf().nodes_of([-9, "a"])), 0)
        self.assertEqual(terms_of(list(unlike_constants(["x", 0], nodes).values())), [8, 9])


def levels(term):
    """How many terms stand within one another."""
    return 1 + max(levels(part) for part in term[1]) if terms.is_compound(term) else 1


class BindingsTest(unittest.TestCase):
    def test_random(self):
        source = random.Random(1049)
        kinds = [0, 0]
        for _ in range(2000):
            pairs = [(random_term(source, 2), random_term(source, 2)) for _ in range(source.randrange(1, 3))]
            bindings, slow = Bindings(), plain.Binding()
            can_be = bindings.make_same(Shelf().pairs_of(pairs))
            self.assertIs(can_be, slow.make_same(pairs))
            kinds[can_be] += 1
            if can_be:
                sides = [side for pair in pairs for side in pair]
                found = terms_of(bindings.resolved(Shelf().nodes_of(sides), {}))
                self.assertEqual(found[::2], found[1::2])
                # Both are most general, so each comes of the other.
                self.assertIsNotNone(plain.matched(slow.resolved(sides), found, {}))
                self.assertIsNotNone(plain.matched(found, slow.resolved(sides), {}))
        self.assertGreater(min(kinds), 200)

    def test_terms_that_share_their_parts(self):
        one, other = (Shelf().node_of(shared(60, X)) for _ in range(2))
        bindings = Bindings()
        self.assertTrue(bindings.make_same([(one, other)]))
        self.assertEqual(bindings.bound, {})
        last = Shelf().node_of(shared(60, "a"))
        self.assertTrue(bindings.make_same([(one, last)]))
        self.assertTrue(are_alike(list(zip(bindings.resolved([one, other], {}), [last, last]))))
        self.assertFalse(Bindings().make_same([(last, Shelf().node_of(shared(60, "b")))]))
        self.assertFalse(Bindings().make_same([(last, Shelf().node_of(shared(59, "a")))]))
        self.assertFalse(Bindings().make_same([(Shelf().node_of(X), one)]))
        self.assertTrue(bindings.may_be_same([one], [last]))
        self.assertFalse(bindings.may_be_same([last], [Shelf().node_of(shared(60, "b"))]))

    def test_unknowns_that_double(self):
        # What stands for the unknowns of the two sides never comes to be asked as two unknowns.
        shelf = Shelf()
        first, second = [], []
        for at in range(40):
            first.append((("?", at + 1), ("f", (("g", (("?", at),)),) * 2)))
            second.append((("?", 100 + at + 1), ("g", (("f", (("?", 100 + at),) * 2),))))
        bound = bound_by(shelf.pairs_of(first + second + [(("?", 40), ("f", (("?", 140),) * 2)), (("?", 0), ("?", 200))]))
        self.assertIsNotNone(bound)
        # The first one is f around the other side's least unknown, twice.
        self.assertEqual(terms_of([bound[0]]), [("f", (("?", 100), ("?", 100)))])
        self.assertEqual(count_signs([bound[40]]), 6 * 2 ** 40 - 3)


class OrderTest(unittest.TestCase):
    def test_random(self):
        source = random.Random(1051)
        for few in (1, 3, 60):
            with mock.patch("proofsizes.ordering.FEW_SIGNS", few):
                for _ in range(40):
                    rows = [[random_term(source, 3) for _ in range(source.choice([1, 2, 2]))] for _ in range(12)]
                    rows += source.sample(rows, 4)
                    nodes = [Shelf().nodes_of(row) for row in rows]
                    places = list(range(len(rows)))
                    self.assertEqual(ascending(places, nodes), sorted(places, key=lambda at: plain.terms_key(rows[at])))
                    by_signs = sorted(places, key=lambda at: (len(plain.terms_key(rows[at])), plain.terms_key(rows[at])))
                    self.assertEqual(ascending_by_signs(places, nodes), by_signs)
                    for one, other in itertools.product(places, repeat=2):
                        self.assertIs(is_below(nodes[one], nodes[other]), plain.terms_key(rows[one]) < plain.terms_key(rows[other]))

    def test_large_terms(self):
        found = [Shelf().node_of(term) for term in (shared(50, "b"), shared(49, "b"), shared(50, "a"), shared(50, X), shared(51, 0), shared(50, 7))]
        # All begin with f; its first part goes on until one comes to its end, integers first, then names.
        self.assertEqual(ascending("123456", [[node] for node in found]), ["2", "6", "3", "1", "4", "5"])
        self.assertEqual(ascending_by_signs("123456", [[node] for node in found]), ["2", "6", "3", "1", "4", "5"])
        self.assertIs(is_below([found[0]], [Shelf().node_of(shared(50, "b"))]), False)
        self.assertEqual(count_signs(found[:2]), 3 * 2 ** 50 - 2)
        self.assertEqual(first_signs(found[:1])[1], True)

    def test_shelves_of_large_terms(self):
        for term in (shared(60, "a"), shared(19, X, 3), parted(15, 1), ("g", (shared(40, "a"), shared(40, "a"), shared(40, "b")))):
            shelf = Shelf()
            one, other = shelf.nodes_of([term, term])
            self.assertIs(one, other)
            again = terms_of([one])[0]
            self.assertIs(shelf.nodes_of([again])[0], one)


if __name__ == "__main__":
    unittest.main()
