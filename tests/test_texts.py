"""Points 2, 3 and 4, deedshares/texts.py and deedshares/readings.py."""

import random
import re

from deedshares.diagrams import Diagram
from deedshares.errors import Unreadable
from deedshares.readings import read_diagram
from deedshares.texts import show_diagram
from tests.cases import KindCase
from tests.words import all_diagrams, diagrams_within_bounds, has_ring, some_diagram

FRONT = Diagram(["x", "z", "y"], [("x", "z"), ("z", "y")], [("x", "y")])
FORM = re.compile(r"([a-z]+):( [a-z] -> [a-z](?:, [a-z] -> [a-z])*)?(; [a-z] ~ [a-z](?:, [a-z] ~ [a-z])*)?")


def diagram_of(text):
    """The diagram with a text, by the form of all texts and by what diagrams are; None if there is none."""
    found = FORM.fullmatch(text)
    if found is None:
        return None
    names = list(found[1])
    arrows = re.findall("([a-z]) -> ([a-z])", found[2] or "")
    pairs = re.findall("([a-z]) ~ ([a-z])", found[3] or "")
    known = all(one in names and other in names and one != other for one, other in arrows + pairs)
    once = len(set(names)) == len(names) <= 6 and len({frozenset(pair) for pair in pairs}) == len(pairs)
    if not known or not once or len(set(arrows)) < len(arrows) or has_ring(arrows):
        return None
    return Diagram(names, arrows, pairs)


class TextCase(KindCase):

    def assert_unreadable(self, text):
        self.assert_raised(Unreadable, text, read_diagram, text)

    def assert_read_as_by_the_form(self, text):
        expected = diagram_of(text)
        if expected is None:
            self.assert_unreadable(text)
        else:
            self.assertEqual(read_diagram(text), expected)


class ExampleTest(KindCase):

    def test_of_the_document(self):
        told = [show_diagram(FRONT), show_diagram(Diagram(["a", "b"], [], [("b", "a")])),
                show_diagram(Diagram(["q"], [], [])), read_diagram("xzy: x -> z, z -> y; x ~ y") == FRONT,
                read_diagram("ab:; b ~ a").pairs]
        self.assert_same(told, ["xzy: x -> z, z -> y; x ~ y", "ab:; b ~ a", "q:", True, [("b", "a")]])


class ShowTest(KindCase):

    def test_each_part(self):
        names = ["c", "a", "b"]
        self.assert_same(show_diagram(Diagram(names, [], [])), "cab:")
        self.assert_same(show_diagram(Diagram(names, [("b", "c")], [])), "cab: b -> c")
        self.assert_same(show_diagram(Diagram(names, [("b", "c"), ("a", "c"), ("b", "a")], [])),
                         "cab: b -> c, a -> c, b -> a")
        self.assert_same(show_diagram(Diagram(names, [], [("b", "c"), ("c", "a")])), "cab:; b ~ c, c ~ a")
        self.assert_same(show_diagram(Diagram(names, [("a", "b")], [("b", "a")])), "cab: a -> b; b ~ a")

    def test_in_the_sequence_in_which_they_were_passed(self):
        self.assert_same(show_diagram(Diagram(list("fbadce"), [("f", "b"), ("e", "c"), ("b", "e")],
                                              [("e", "a"), ("d", "c")])),
                         "fbadce: f -> b, e -> c, b -> e; e ~ a, d ~ c")

    def test_by_name(self):
        self.assert_takes(show_diagram, ["diagram"])
        self.assert_same(show_diagram(diagram=FRONT), "xzy: x -> z, z -> y; x ~ y")

    def test_by_the_form(self):
        chance = random.Random(81)
        for diagram in diagrams_within_bounds(chance, 300):
            self.assertEqual(diagram_of(show_diagram(diagram)), diagram)


class ReadTest(TextCase):

    def test_read_back(self):
        for names in (["q"], ["b", "a"], ["c", "a", "b"]):
            for diagram in all_diagrams(names):
                self.assertEqual(read_diagram(show_diagram(diagram)), diagram)
        chance = random.Random(82)
        for diagram in diagrams_within_bounds(chance, 300):
            self.assertEqual(read_diagram(show_diagram(diagram)), diagram)

    def test_as_many_arrows_and_pairs_as_there_can_be(self):
        diagram = some_diagram(random.Random(83), list("fedcba"), 3)
        self.assertEqual([len(diagram.arrows), len(diagram.pairs)], [15, 15])
        self.assertEqual(read_diagram(show_diagram(diagram)), diagram)

    def test_kinds(self):
        diagram = read_diagram("xzy: x -> z, z -> y; x ~ y")
        self.assertIs(diagram.__class__, Diagram)
        self.assert_same([diagram.names, diagram.arrows, diagram.pairs],
                         [["x", "z", "y"], [("x", "z"), ("z", "y")], [("x", "y")]])

    def test_by_name(self):
        self.assert_takes(read_diagram, ["text"])
        self.assertEqual(read_diagram(text="q:"), Diagram(["q"], [], []))
        self.assert_raised(Unreadable, "q", read_diagram, text="q")


class UnreadableTest(TextCase):

    def test_no_diagram_has_such_names(self):
        for text in ("", ":", "q", " q:", "Q:", "1:", "qq:", "abcdefg:", "aba: a -> b", "a b:", "a,b:", "~:",
                     ": a -> b", "abA: a -> b", "-:", "q::", "q:q:", "a" * 999 + ":"):
            self.assert_unreadable(text)

    def test_no_diagram_has_such_arrows_and_pairs(self):
        for text in ("ab: a -> c", "ab: c -> a", "ab: a -> a", "ab: a -> b, a -> b", "ab: a -> b, b -> a",
                     "abc: a -> b, b -> c, c -> a", "ab:; a ~ c", "ab:; a ~ a", "ab:; a ~ b, a ~ b",
                     "ab:; a ~ b, b ~ a", "ab: ab -> b", "ab: a -> ab", "ab:; ab ~ b", "ab: a -> b -> c",
                     "abc: a -> b -> c", "abc:; a ~ b ~ c", "ab:  -> b", "ab: a -> ", "ab:;  ~ b", "ab:; a ~ "):
            self.assert_unreadable(text)

    def test_signs_more_or_less_or_otherwise(self):
        for text in ("ab: ", "ab:;", "ab: ;", "ab:; ", "ab: a -> b;", "ab: a -> b; ", "ab: a -> b,", "ab: a -> b, ",
                     "ab:, a -> b", "ab: , a -> b", "ab: a->b", "ab: a- > b", "ab: a > b", "ab: a - b", "ab: a b",
                     "ab: ab", "ab: a", "ab: b <- a", "ab: a => b", "ab; a ~ b", "ab: a ~ b", "ab:; a -> b",
                     "ab:a -> b", "ab:;a ~ b", "ab: ; a ~ b", "ab: a -> b ; a ~ b", "ab: a -> b;; a ~ b",
                     "ab: a -> b: a ~ b", "ab: a -> b, a ~ b", "ab: a ~ b; a -> b", "ab: a -> b; a ~ b; b ~ a",
                     "ab:; a ~ b, ", "ab:; a ~ b,", "ab:;, a ~ b", "ab: a -> b a ~ b", "ab a -> b", "ab : a -> b",
                     "ab: a -> b.", "ab: a -> B", "ab: (a -> b)", "abc: a -> b,b -> c", "abc: a -> b b -> c",
                     "abc: a -> b ,b -> c", "abc: a -> b; b -> c", "abc: a -> b,, b -> c", "abc:; a ~ b,b ~ c"):
            self.assert_unreadable(text)

    def test_spaces(self):
        for text in (" ab: a -> b", "ab: a -> b ", "ab:  a -> b", "ab: a  -> b", "ab: a ->  b", "ab: a ->b",
                     "ab: a-> b", "ab:;  a ~ b", "ab:; a  ~ b", "ab:; a ~  b", "ab:; a ~b", "ab:; a~ b", "ab:; a~b",
                     "ab:; a ~ b ", " ab:; a ~ b", "ab :; a ~ b", "abc: a -> b,  b -> c", "abc: a -> b , b -> c", " ",
                     "q: ", " q:", "ab: a -> b;  a ~ b", "ab: a -> b;a ~ b"):
            self.assert_unreadable(text)

    def test_long_texts(self):
        for text in ("ab: " + ", ".join(["a -> b"] * 124), "ab:; " + ", ".join(["a ~ b"] * 142), " " * 1000, ":" * 1000,
                     ";" * 1000, "ab:" + "," * 997, "ab: a -> b" + " " * 990, "~" * 1000):
            self.assertLessEqual(len(text), 1000)
            self.assert_unreadable(text)

    def test_each_text_next_to_one_of_a_diagram(self):
        for text in ("xzy: x -> z, z -> y; x ~ y", "ab:; b ~ a", "q:", "ab: a -> b", "abc:; a ~ b, c ~ b"):
            for at in range(len(text) + 1):
                self.assert_read_as_by_the_form(text[:at])
                self.assert_read_as_by_the_form(text[at:])
                self.assert_read_as_by_the_form(text[:at] + text[at + 1:])
                self.assert_read_as_by_the_form(text[:at] + text[at:at + 1] + text[at:])
                self.assert_read_as_by_the_form(text[:at] + text[at:at + 2][::-1] + text[at + 2:])
                for sign in map(chr, range(32, 127)):
                    self.assert_read_as_by_the_form(text[:at] + sign + text[at:])
                    self.assert_read_as_by_the_form(text[:at] + sign + text[at + 1:])

    def test_drawn_texts(self):
        chance = random.Random(84)
        parts = ["ab", "c", ":", " ", "a -> b", "b -> c", "c -> a", ", ", "; ", "a ~ b", "c ~ b", "ab:", ";", ","]
        for _ in range(5000):
            self.assert_read_as_by_the_form("".join(chance.choices(parts, k=chance.randint(1, 7))))
