"""Points 2, 3 and 4, and the diagrams of the interface."""

from itertools import permutations
from unittest import mock

from deedshares import diagrams
from deedshares.diagrams import Diagram
from deedshares.errors import InvalidArrow, InvalidName, InvalidNumber, InvalidPair
from tests.cases import KindCase
from tests.words import all_diagrams, arrows_without_ring, has_ring, leads, subsets

LETTERS = "abcdefghijklmnopqrstuvwxyz"


def front():
    return Diagram(["x", "z", "y"], [("x", "z"), ("z", "y")], [("y", "x")])


class ToldTest(KindCase):

    def test_lists_as_they_were_passed(self):
        arrows = [("z", "y"), ("x", "z"), ("x", "y")]
        pairs = [("y", "x"), ("x", "z")]
        diagram = Diagram(["y", "x", "z"], arrows, pairs)
        self.assertEqual(diagram.names, ["y", "x", "z"])
        self.assertEqual(diagram.arrows, [("z", "y"), ("x", "z"), ("x", "y")])
        self.assertEqual(diagram.pairs, [("y", "x"), ("x", "z")])

    def test_by_name(self):
        diagram = Diagram(pairs=[("b", "a")], arrows=[("a", "b")], names=["a", "b"])
        self.assertEqual(diagram, Diagram(["a", "b"], [("a", "b")], [("b", "a")]))
        self.assertEqual(diagram.sources(name="b"), ["a"])
        self.assertEqual(diagram.leading_to(name="b"), ["a", "b"])

    def test_kinds(self):
        diagram = front()
        for told in (diagram.names, diagram.arrows, diagram.pairs, diagram.sources("y"), diagram.leading_to("y")):
            self.assertIs(told.__class__, list)
        for joined in diagram.arrows + diagram.pairs:
            self.assertIs(joined.__class__, tuple)

    def test_answers_are_new_each_time(self):
        diagram = front()
        asks = [lambda: diagram.names, lambda: diagram.arrows, lambda: diagram.pairs,
                lambda: diagram.sources("y"), lambda: diagram.leading_to("y")]
        for ask in asks:
            first = ask()
            kept = list(first)
            first.append("w")
            first[0] = "v"
            self.assertEqual(ask(), kept)
            self.assertIsNot(ask(), ask())
        self.assertEqual(diagram, front())

    def test_passed_lists_are_neither_changed_nor_kept(self):
        names, arrows, pairs = ["x", "z", "y"], [("x", "z"), ("z", "y")], [("y", "x")]
        diagram = Diagram(names, arrows, pairs)
        self.assertEqual((names, arrows, pairs), (["x", "z", "y"], [("x", "z"), ("z", "y")], [("y", "x")]))
        names.append("w")
        arrows.pop()
        pairs[0] = ("x", "z")
        self.assertEqual(diagram, front())
        self.assertEqual(diagram.names, ["x", "z", "y"])
        self.assertEqual(diagram.leading_to("y"), ["x", "z", "y"])
        self.assertEqual(diagram.sources("y"), ["z"])

    def test_interface(self):
        self.assertEqual(Diagram.__module__, "deedshares.diagrams")
        for name in ("__init__", "__eq__", "sources", "leading_to"):
            self.assertIn(name, vars(Diagram))
        for name in ("names", "arrows", "pairs"):
            self.assertIsInstance(vars(Diagram)[name], property)
            self.assertRaises(AttributeError, setattr, front(), name, [])
        self.assertIs(vars(diagrams)["Diagram"], Diagram)


class EqualityTest(KindCase):

    def test_equal_if_the_lists_are(self):
        self.assertTrue(front() == front())
        self.assertFalse(front() != front())
        self.assertTrue(Diagram(["a"], [], []) == Diagram(["a"], [], []))

    def test_unlike_if_one_list_is(self):
        one = Diagram(["a", "b", "c"], [("a", "b"), ("b", "c")], [("a", "b"), ("b", "c")])
        others = [Diagram(["b", "a", "c"], one.arrows, one.pairs), Diagram(["a", "b", "c", "d"], one.arrows, one.pairs),
                  Diagram(one.names, one.arrows[::-1], one.pairs), Diagram(one.names, one.arrows[:1], one.pairs),
                  Diagram(one.names, one.arrows, one.pairs[::-1]), Diagram(one.names, one.arrows, one.pairs[:1]),
                  Diagram(one.names, one.arrows, [("b", "a"), ("b", "c")])]
        for other in others:
            self.assertFalse(one == other)
            self.assertFalse(other == one)
            self.assertTrue(one != other)

    def test_not_equal_to_anything_else(self):
        diagram = front()
        lists = (diagram.names, diagram.arrows, diagram.pairs)
        for other in (None, 0, "xzy", lists, list(lists), diagram.names, Diagram, object(), mock.ANY):
            self.assertFalse(diagram == other)
            self.assertTrue(diagram != other)
        self.assertIs(diagram == 3, False)


class NamesTest(KindCase):

    def test_each_letter(self):
        for letter in LETTERS:
            self.assertEqual(Diagram([letter], [], []).names, [letter])

    def test_no_letter(self):
        for name in ("", "A", "Z", "0", "ab", "aa", "az", " ", "a ", " a", "~", "`", "{", "-", "z" * 1000, LETTERS):
            self.assert_raised(InvalidName, name, Diagram, [name], [], [])
            self.assert_raised(InvalidName, name, Diagram, ["a", "b", name, "?"], [], [])

    def test_came_before(self):
        self.assert_raised(InvalidName, "a", Diagram, ["a", "a"], [], [])
        self.assert_raised(InvalidName, "b", Diagram, ["a", "b", "c", "b", "a"], [], [])

    def test_number(self):
        for many in range(1, 7):
            self.assertEqual(Diagram(list(LETTERS[:many]), [], []).names, list(LETTERS[:many]))
        for many in (0, 7, 8, 26):
            self.assert_raised(InvalidNumber, many, Diagram, list(LETTERS[:many]), [], [])

    def test_name_ahead_of_number(self):
        self.assert_raised(InvalidName, "B", Diagram, list("acdefgh") + ["B"], [], [])
        self.assert_raised(InvalidName, "a", Diagram, list(LETTERS) + ["a", ""], [], [])


class ArrowsTest(KindCase):

    def test_ends_not_of_the_names(self):
        for arrow in (("a", "d"), ("d", "a"), ("d", "e"), ("a", ""), ("", "a"), ("a", "ab"), ("A", "b"), ("abc", "a")):
            self.assert_raised(InvalidArrow, arrow, Diagram, ["a", "b", "c"], [("a", "b"), arrow, ("c", "c")], [])

    def test_ends_alike(self):
        self.assert_raised(InvalidArrow, ("b", "b"), Diagram, ["a", "b"], [("a", "b"), ("b", "b")], [])

    def test_came_before(self):
        self.assert_raised(InvalidArrow, ("a", "b"), Diagram, ["a", "b", "c"],
                           [("a", "b"), ("b", "c"), ("a", "b"), ("c", "a")], [])

    def test_rings(self):
        self.assert_raised(InvalidArrow, ("b", "a"), Diagram, ["a", "b"], [("a", "b"), ("b", "a")], [])
        self.assert_raised(InvalidArrow, ("c", "a"), Diagram, ["a", "b", "c"], [("b", "c"), ("a", "b"), ("c", "a")], [])
        ring = [(LETTERS[at], LETTERS[(at + 1) % 6]) for at in range(6)]
        self.assertEqual(Diagram(list("abcdef"), ring[:5], []).arrows, ring[:5])
        for order in permutations(ring):
            self.assert_raised(InvalidArrow, order[5], Diagram, list("fedcba"), list(order), [])

    def test_all_sets_of_arrows(self):
        names = ["a", "b", "c"]
        for arrows in subsets(list(permutations(names, 2))):
            if has_ring(arrows):
                first = next(at for at in range(1, 7) if has_ring(arrows[:at]))
                self.assert_raised(InvalidArrow, arrows[first - 1], Diagram, names, arrows, [])
            else:
                self.assertEqual(Diagram(names, arrows, []).arrows, arrows)


class PairsTest(KindCase):

    def test_things_not_of_the_names(self):
        for pair in (("a", "d"), ("d", "a"), ("d", "e"), ("a", ""), ("", "a"), ("a", "ab"), ("A", "b"), ("abc", "a")):
            self.assert_raised(InvalidPair, pair, Diagram, ["a", "b", "c"], [], [("a", "b"), pair, ("c", "c")])

    def test_things_alike(self):
        self.assert_raised(InvalidPair, ("b", "b"), Diagram, ["a", "b"], [], [("a", "b"), ("b", "b")])

    def test_came_before_either_way_about(self):
        self.assert_raised(InvalidPair, ("a", "b"), Diagram, ["a", "b", "c"], [],
                           [("a", "b"), ("b", "c"), ("a", "b"), ("c", "b")])
        self.assert_raised(InvalidPair, ("b", "a"), Diagram, ["a", "b", "c"], [],
                           [("a", "b"), ("b", "c"), ("b", "a"), ("c", "b")])

    def test_rings_and_arrows_are_no_fault(self):
        pairs = [("a", "b"), ("b", "c"), ("c", "a")]
        self.assertEqual(Diagram(["a", "b", "c"], [("a", "b"), ("c", "b")], pairs).pairs, pairs)

    def test_all_fifteen(self):
        pairs = [(one, other) for one, other in permutations("fedcba", 2) if one > other]
        self.assertEqual(Diagram(list("abcdef"), [], pairs).pairs, pairs)


class SeveralFaultsTest(KindCase):

    def test_in_the_order_listed(self):
        arrows, pairs = [("a", "a")], [("b", "b")]
        many = list("abcdefg")
        self.assert_raised(InvalidName, "?", Diagram, many + ["?"], arrows, pairs)
        self.assert_raised(InvalidNumber, 7, Diagram, many, arrows, pairs)
        self.assert_raised(InvalidNumber, 0, Diagram, [], arrows, pairs)
        self.assert_raised(InvalidArrow, ("a", "a"), Diagram, ["a", "b"], arrows, pairs)
        self.assert_raised(InvalidPair, ("b", "b"), Diagram, ["a", "b"], [], pairs)

    def test_first_fault_of_a_list_whatever_it_is(self):
        self.assert_raised(InvalidArrow, ("b", "a"), Diagram, ["a", "b"], [("a", "b"), ("b", "a"), ("a", "a")], [])
        self.assert_raised(InvalidArrow, ("a", "a"), Diagram, ["a", "b"], [("a", "b"), ("a", "a"), ("b", "a")], [])
        self.assert_raised(InvalidPair, ("b", "a"), Diagram, ["a", "b"], [], [("a", "b"), ("b", "a"), ("c", "a")])
        self.assert_raised(InvalidPair, ("c", "a"), Diagram, ["a", "b"], [], [("a", "b"), ("c", "a"), ("b", "a")])

    def test_passed_lists_stay_as_they_are(self):
        names, arrows, pairs = ["b", "a"], [("a", "b"), ("b", "a")], [("b", "b")]
        self.assert_raised(InvalidArrow, ("b", "a"), Diagram, names, arrows, pairs)
        self.assertEqual((names, arrows, pairs), (["b", "a"], [("a", "b"), ("b", "a")], [("b", "b")]))

    def test_by_name(self):
        self.assert_raised(InvalidPair, ("a", "a"), Diagram, pairs=[("a", "a")], arrows=[], names=["a"])


class LeadingTest(KindCase):

    def test_in_the_sequence_of_the_diagram(self):
        diagram = Diagram(["c", "e", "a", "d", "b"], [("a", "b"), ("e", "b"), ("d", "a"), ("c", "d")], [("b", "c")])
        self.assertEqual(diagram.sources("b"), ["e", "a"])
        self.assertEqual(diagram.leading_to("b"), ["c", "e", "a", "d", "b"])
        self.assertEqual(diagram.leading_to("a"), ["c", "a", "d"])
        self.assertEqual(diagram.sources("c"), [])
        self.assertEqual(diagram.leading_to("c"), ["c"])

    def test_hidden_pairs_lead_nowhere(self):
        diagram = Diagram(["a", "b"], [], [("a", "b")])
        self.assertEqual([diagram.sources("b"), diagram.leading_to("b")], [[], ["b"]])

    def test_each_thing_of_all_small_diagrams(self):
        names = ["b", "d", "a", "c"]
        for arrows in arrows_without_ring(names):
            diagram = Diagram(names, arrows, [("a", "b")])
            for name in names:
                self.assertEqual(diagram.sources(name), [one for one in names if (one, name) in arrows])
                self.assertEqual(diagram.leading_to(name), [one for one in names if leads(diagram, one, name)])

    def test_wrong_names(self):
        diagram = front()
        for name in ("w", "", "xz", "X", "~"):
            self.assert_raised(InvalidName, name, diagram.sources, name)
            self.assert_raised(InvalidName, name, diagram.leading_to, name)
            self.assert_raised(InvalidName, name, diagram.leading_to, name=name)
        self.assertEqual(diagram, front())


class SmallDiagramsTest(KindCase):

    def test_all_can_be_made(self):
        self.assertEqual(len(all_diagrams(["a", "b", "c"])), 25 * 8)
