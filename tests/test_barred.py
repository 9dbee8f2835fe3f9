"""Points 2, 3 and 7, and the functions of deedshares/barred.py."""

import random
import unittest

from deedshares.barred import barred, open_way
from deedshares.diagrams import Diagram
from deedshares.errors import InvalidDeed, InvalidName
from tests.cases import KindCase
from tests.words import all_diagrams, first_open_way, is_barred, some_diagram, subsets

ABC = ["a", "b", "c"]
LINE = Diagram(ABC, [("a", "b"), ("b", "c")], [])
FORK = Diagram(ABC, [("b", "a"), ("b", "c")], [])
MEET = Diagram(["a", "b", "c", "d"], [("a", "b"), ("c", "b"), ("b", "d")], [])


class ExampleTest(unittest.TestCase):

    def test_of_the_document(self):
        told = [LINE.sources("c"), LINE.leading_to("c"), barred(LINE, ["a"], ["c"], ["b"]),
                open_way(LINE, "a", "c", []), barred(MEET, ["a"], ["c"], []), barred(MEET, ["a"], ["c"], ["d"]),
                open_way(MEET, "a", "c", ["d"]), MEET.names, LINE.pairs]
        self.assertEqual(told, [["b"], ["a", "b", "c"], True, ["a", "b", "c"], True, False, ["a", "b", "c"],
                                ["a", "b", "c", "d"], []])


class WaysTest(unittest.TestCase):

    def test_lines_and_forks(self):
        for diagram in (LINE, FORK, Diagram(ABC, [("c", "b"), ("b", "a")], [])):
            self.assertEqual(open_way(diagram, "a", "c", []), ["a", "b", "c"])
            self.assertEqual(open_way(diagram, "c", "a", []), ["c", "b", "a"])
            self.assertIsNone(open_way(diagram, "a", "c", ["b"]))
            self.assertIs(barred(diagram, ["a"], ["c"], []), False)
            self.assertIs(barred(diagram, ["a"], ["c"], ["b"]), True)

    def test_meetings_and_things_behind_them(self):
        self.assertIsNone(open_way(MEET, "a", "c", []))
        self.assertEqual(open_way(MEET, "a", "c", ["b"]), ["a", "b", "c"])
        self.assertEqual(open_way(MEET, "a", "c", ["d"]), ["a", "b", "c"])
        self.assertEqual(open_way(MEET, "a", "c", ["b", "d"]), ["a", "b", "c"])
        far = Diagram(list("abcde"), [("a", "b"), ("c", "b"), ("b", "d"), ("d", "e")], [])
        self.assertIs(barred(far, ["a"], ["c"], ["e"]), False)
        self.assertEqual(open_way(far, "a", "e", []), ["a", "b", "d", "e"])
        self.assertIsNone(open_way(far, "a", "e", ["d"]))

    def test_things_ahead_of_a_meeting_do_not_open_it(self):
        diagram = Diagram(list("abcd"), [("a", "b"), ("c", "b"), ("d", "b")], [])
        self.assertIsNone(open_way(diagram, "a", "c", ["d"]))

    def test_hidden_pairs_point_at_both(self):
        diagram = Diagram(ABC, [], [("a", "b"), ("c", "b")])
        self.assertEqual(open_way(diagram, "a", "b", ["c"]), ["a", "b"])
        self.assertIsNone(open_way(diagram, "a", "c", []))
        self.assertEqual(open_way(diagram, "a", "c", ["b"]), ["a", "b", "c"])
        fork = Diagram(ABC, [("b", "c")], [("b", "a")])
        self.assertEqual(open_way(fork, "a", "c", []), ["a", "b", "c"])
        self.assertIsNone(open_way(fork, "a", "c", ["b"]))

    def test_each_choice_of_joins_counts(self):
        both = Diagram(ABC, [("b", "a"), ("c", "b")], [("a", "b")])
        self.assertEqual(open_way(both, "a", "c", []), ["a", "b", "c"])
        self.assertEqual(open_way(both, "a", "c", ["b"]), ["a", "b", "c"])
        line = Diagram(ABC, [("a", "b"), ("b", "c")], [("c", "b")])
        self.assertEqual(open_way(line, "a", "c", []), ["a", "b", "c"])
        self.assertEqual(open_way(line, "a", "c", ["b"]), ["a", "b", "c"])

    def test_two_choices_at_one_thing(self):
        diagram = Diagram(ABC, [("b", "a"), ("b", "c")], [("a", "b"), ("c", "b")])
        self.assertEqual(open_way(diagram, "a", "c", []), ["a", "b", "c"])
        self.assertEqual(open_way(diagram, "a", "c", ["b"]), ["a", "b", "c"])
        chain = Diagram(list("abcd"), [("a", "b"), ("b", "c"), ("c", "d")], [("b", "c"), ("c", "d")])
        self.assertEqual(open_way(chain, "a", "d", ["b", "c"]), ["a", "b", "c", "d"])
        self.assertEqual(open_way(chain, "a", "d", ["c"]), ["a", "b", "c", "d"])
        self.assertIsNone(open_way(Diagram(chain.names, chain.arrows, [("b", "c")]), "a", "d", ["c"]))

    def test_neighbours(self):
        for diagram in (Diagram(["a", "b"], [("a", "b")], []), Diagram(["a", "b"], [], [("b", "a")])):
            self.assertEqual(open_way(diagram, "a", "b", []), ["a", "b"])
            self.assertEqual(open_way(diagram, "b", "a", []), ["b", "a"])
        self.assertIsNone(open_way(Diagram(["a", "b"], [], []), "a", "b", []))

    def test_from_a_thing_to_itself(self):
        for given in ([], ["b"], ["b", "c"]):
            self.assertEqual(open_way(LINE, "a", "a", given), ["a"])
        self.assertEqual(open_way(Diagram(["q"], [], []), "q", "q", []), ["q"])

    def test_first_by_how_many_things(self):
        diagram = Diagram(list("abcd"), [("a", "b"), ("b", "c"), ("c", "d"), ("a", "c")], [])
        self.assertEqual(open_way(diagram, "a", "d", []), ["a", "c", "d"])

    def test_then_by_places_in_the_sequence_of_the_diagram(self):
        arrows = [("a", "b"), ("a", "c"), ("b", "d"), ("c", "d")]
        self.assertEqual(open_way(Diagram(["a", "b", "c", "d"], arrows, []), "a", "d", []), ["a", "b", "d"])
        self.assertEqual(open_way(Diagram(["a", "c", "b", "d"], arrows, []), "a", "d", []), ["a", "c", "d"])
        self.assertEqual(open_way(Diagram(["c", "d", "b", "a"], arrows[::-1], []), "d", "a", []), ["d", "c", "a"])
        long = [("a", "b"), ("b", "e"), ("e", "f"), ("a", "c"), ("c", "d"), ("d", "f")]
        self.assertEqual(open_way(Diagram(list("abcdef"), long, []), "a", "f", []), ["a", "b", "e", "f"])
        self.assertEqual(open_way(Diagram(list("acbdef"), long, []), "a", "f", []), ["a", "c", "d", "f"])
        self.assertEqual(open_way(Diagram(list("abcdef"), long, []), "f", "a", []), ["f", "d", "c", "a"])

    def test_no_way_through_a_thing_twice(self):
        diagram = Diagram(list("abcd"), [("a", "b"), ("c", "b"), ("b", "d")], [])
        self.assertIsNone(open_way(diagram, "a", "c", []))
        self.assertEqual(open_way(diagram, "a", "c", ["d"]), ["a", "b", "c"])

    def test_answers_are_new(self):
        first = open_way(LINE, "a", "c", [])
        first.append("a")
        self.assertEqual(open_way(LINE, "a", "c", []), ["a", "b", "c"])
        open_way(LINE, "a", "a", []).append("b")
        self.assertEqual(open_way(LINE, "a", "a", []), ["a"])


class ListsTest(unittest.TestCase):

    def test_empty_lists(self):
        for ones, others in (([], []), (["a"], []), ([], ["a", "b"])):
            self.assertIs(barred(LINE, ones, others, []), True)
            self.assertIs(barred(LINE, ones, others, ["c"]), True)

    def test_one_open_way_is_enough(self):
        diagram = Diagram(list("abcd"), [("b", "d")], [])
        self.assertIs(barred(diagram, ["a", "b"], ["c", "d"], []), False)
        self.assertIs(barred(diagram, ["b", "a"], ["d", "c"], []), False)
        self.assertIs(barred(diagram, ["a", "d"], ["c"], ["b"]), True)
        self.assertIs(barred(diagram, ["a", "c"], ["b", "d"], []), True)

    def test_ways_may_go_through_things_of_the_lists(self):
        self.assertIs(barred(LINE, ["a", "b"], ["c"], []), False)
        self.assertIs(barred(LINE, ["a"], ["c", "b"], []), False)

    def test_passed_lists_are_not_changed(self):
        diagram = Diagram(list("abcdef"), [("a", "b"), ("c", "b"), ("b", "d")], [("e", "f")])
        ones, others, given = ["e", "a"], ["f", "c"], ["d", "b"]
        barred(diagram, ones, others, given)
        open_way(diagram, "a", "c", given)
        self.assertEqual((ones, others, given), (["e", "a"], ["f", "c"], ["d", "b"]))
        self.assertEqual(diagram, Diagram(list("abcdef"), [("a", "b"), ("c", "b"), ("b", "d")], [("e", "f")]))

    def test_by_name(self):
        self.assertIs(barred(given=["b"], others=["c"], ones=["a"], diagram=LINE), True)
        self.assertIs(barred(LINE, ["a"], given=[], others=["c"]), False)
        self.assertEqual(open_way(given=["d"], other="a", one="c", diagram=MEET), ["c", "b", "a"])

    def test_interface(self):
        for called in (barred, open_way):
            self.assertEqual(called.__module__, "deedshares.barred")
        self.assertEqual(barred.__code__.co_varnames[:4], ("diagram", "ones", "others", "given"))
        self.assertEqual(open_way.__code__.co_varnames[:4], ("diagram", "one", "other", "given"))


class ErrorsTest(KindCase):

    def test_names_of_barred(self):
        for wrong in ("d", "", "ab", "A", "~"):
            self.assert_raised(InvalidName, wrong, barred, LINE, ["a", wrong, "?"], ["c"], ["b"])
            self.assert_raised(InvalidName, wrong, barred, LINE, ["a"], ["c", wrong, "?"], ["b"])
            self.assert_raised(InvalidName, wrong, barred, LINE, ["a"], ["c"], ["b", wrong, "?"])
            self.assert_raised(InvalidName, wrong, barred, LINE, [], [], [wrong])

    def test_names_that_came_before(self):
        self.assert_raised(InvalidName, "a", barred, LINE, ["a", "b", "a", "b"], ["c"], [])
        self.assert_raised(InvalidName, "c", barred, LINE, ["a"], ["c", "c"], [])
        self.assert_raised(InvalidName, "b", barred, LINE, ["a"], ["c"], ["b", "b", "?"])
        self.assert_raised(InvalidName, "b", open_way, LINE, "a", "c", ["b", "b", "?"])

    def test_names_of_open_way(self):
        for wrong in ("d", "", "ab", "A", "~"):
            self.assert_raised(InvalidName, wrong, open_way, LINE, wrong, "?", ["!"])
            self.assert_raised(InvalidName, wrong, open_way, LINE, "a", wrong, ["!"])
            self.assert_raised(InvalidName, wrong, open_way, LINE, "a", "b", ["c", wrong, "?"])
            self.assert_raised(InvalidName, wrong, open_way, LINE, wrong, wrong, [])

    def test_names_in_a_list_ahead(self):
        self.assert_raised(InvalidDeed, "b", barred, LINE, ["a", "b"], ["c", "b", "a"], [])
        self.assert_raised(InvalidDeed, "a", barred, LINE, ["a"], ["b"], ["c", "a", "b"])
        self.assert_raised(InvalidDeed, "b", barred, LINE, ["a"], ["b"], ["c", "b", "a"])
        self.assert_raised(InvalidDeed, "a", barred, LINE, ["a"], [], ["a"])
        self.assert_raised(InvalidDeed, "a", barred, LINE, [], ["a"], ["a"])
        self.assert_raised(InvalidDeed, "c", open_way, LINE, "a", "c", ["b", "c", "a"])
        self.assert_raised(InvalidDeed, "a", open_way, LINE, "a", "c", ["b", "a", "c"])
        self.assert_raised(InvalidDeed, "a", open_way, LINE, "a", "a", ["a"])

    def test_several_at_once(self):
        self.assert_raised(InvalidName, "?", barred, LINE, ["?"], ["!"], ["."])
        self.assert_raised(InvalidName, "!", barred, LINE, ["a"], ["a", "!"], ["."])
        self.assert_raised(InvalidName, ".", barred, LINE, ["a"], ["a"], ["a", "."])
        self.assert_raised(InvalidName, "b", barred, LINE, ["a"], ["a"], ["b", "b"])
        self.assert_raised(InvalidDeed, "c", barred, LINE, ["a", "c"], ["b", "c"], ["b", "a"])
        self.assert_raised(InvalidName, "b", open_way, LINE, "a", "c", ["a", "b", "b"])

    def test_diagram_stays_after_an_error(self):
        diagram = Diagram(ABC, [("a", "b"), ("b", "c")], [])
        self.assert_raised(InvalidDeed, "a", barred, diagram, ["a"], ["a"], [])
        self.assert_raised(InvalidName, "?", open_way, diagram, "a", "?", [])
        self.assertEqual(diagram, LINE)
        self.assertEqual(open_way(diagram, "a", "c", []), ["a", "b", "c"])


class AllDiagramsTest(unittest.TestCase):

    def assert_by_the_words(self, diagram, one, other):
        for given in subsets([name for name in diagram.names if name not in (one, other)]):
            way = first_open_way(diagram, one, other, given)
            if open_way(diagram, one, other, given) != way:
                self.fail((diagram.names, diagram.arrows, diagram.pairs, one, other, given, way))

    def test_open_way_up_to_three_things(self):
        for names in (["a"], ["b", "a"], ["c", "a", "b"]):
            for diagram in all_diagrams(names):
                for one in names:
                    for other in names:
                        self.assert_by_the_words(diagram, one, other)

    def test_open_way_of_four_things(self):
        # The diagrams come with each naming of their things, so these two ends stand for all.
        for diagram in all_diagrams(["c", "a", "d", "b"]):
            self.assert_by_the_words(diagram, "a", "b")

    def test_open_way_of_more_things(self):
        chance = random.Random(7)
        for _ in range(150):
            names = chance.sample("abcdef", chance.choice([5, 6]))
            diagram = some_diagram(chance, names, chance.choice([0.2, 0.4, 0.7]))
            self.assert_by_the_words(diagram, names[chance.randrange(5)], names[chance.randrange(5)])

    def test_barred_of_three_things(self):
        parts = [(ones, others, given) for ones in subsets(ABC) for others in subsets(ABC) for given in subsets(ABC)
                 if len(ones + others + given) == len(set(ones + others + given))]
        for diagram in all_diagrams(ABC):
            for ones, others, given in parts:
                self.assertIs(barred(diagram, ones, others, given), is_barred(diagram, ones, others, given))

    def test_barred_of_more_things(self):
        chance = random.Random(11)
        for _ in range(400):
            diagram = some_diagram(chance, list("abcdef"), chance.choice([0.2, 0.4]))
            mixed = chance.sample("abcdef", 6)
            ends = sorted([chance.randrange(7), chance.randrange(7), chance.randrange(7)])
            lists = mixed[:ends[0]], mixed[ends[0]:ends[1]], mixed[ends[1]:ends[2]]
            self.assertIs(barred(diagram, *lists), is_barred(diagram, *lists))
