"""Points 2, 3 and 6, and deedshares/cures.py."""

import random

from deedshares.cures import cures, is_cure
from deedshares.diagrams import Diagram
from deedshares.errors import InvalidDeed, InvalidName, InvalidNumber
from tests.cases import KindCase
from tests.words import diagrams_within_bounds, some_parts, stuck_by_words, subsets

BOW = Diagram(["x", "y"], [("x", "y")], [("x", "y")])
FRONT = Diagram(["x", "z", "y"], [("x", "z"), ("z", "y")], [("x", "y")])
SEVERAL = Diagram(list("xyz"), [("x", "y"), ("y", "z")], [("y", "z"), ("x", "y"), ("x", "z")])


def is_cure_by_words(diagram, acted, asked, indices):
    pairs = [pair for at, pair in enumerate(diagram.pairs) if at not in indices]
    return stuck_by_words(Diagram(diagram.names, diagram.arrows, pairs), acted, asked) is None


def cures_by_words(diagram, acted, asked):
    """All subsets without which the shares are told, those that hold another one left out."""
    told = [some for some in subsets(range(len(diagram.pairs))) if is_cure_by_words(diagram, acted, asked, some)]
    least = [some for some in told if not any(set(other) < set(some) for other in told)]
    return sorted(least, key=lambda some: (len(some), some))


class ExampleTest(KindCase):

    def test_of_the_document(self):
        told = [cures(BOW, ["x"], ["y"]), cures(FRONT, ["x"], ["y"]), is_cure(BOW, ["x"], ["y"], []),
                is_cure(BOW, ["x"], ["y"], [0])]
        self.assert_same(told, [[[0]], [[]], False, True])


class CuresTest(KindCase):

    def test_told_already(self):
        self.assert_same(cures(BOW, [], ["y"]), [[]])
        self.assert_same(cures(BOW, ["x"], []), [[]])
        self.assert_same(cures(BOW, ["y"], ["x"]), [[]])
        self.assert_same(cures(Diagram(["q"], [], []), ["q"], []), [[]])

    def test_several(self):
        self.assert_same(cures(SEVERAL, ["x"], ["z"]), [[0, 1], [1, 2]])
        way = Diagram(list("xabz"), [("x", "z")], [("b", "z"), ("x", "a"), ("a", "b")])
        self.assert_same(cures(way, ["x"], ["z"]), [[]])
        kept = Diagram(list("xabz"), [("x", "z"), ("a", "z"), ("b", "z")], [("b", "z"), ("x", "a"), ("a", "b")])
        self.assert_same(cures(kept, ["x", "a", "b"], ["z"]), [[0]])
        both = Diagram(list("xaz"), [("x", "z"), ("x", "a"), ("a", "z")], [("a", "z"), ("x", "a")])
        self.assert_same(cures(both, ["x"], ["z"]), [[1]])
        self.assert_same(cures(Diagram(list("xaz"), [("x", "a"), ("a", "z")], both.pairs), ["x"], ["z"]), [[1]])

    def test_ordered_by_how_many_they_are(self):
        diagram = Diagram(list("vmzw"), [("w", "v"), ("m", "v")], [("m", "w"), ("v", "w"), ("z", "m"), ("w", "z")])
        self.assert_same(cures(diagram, ["m"], ["v", "z"]), [[1], [0, 2], [0, 3]])
        turned = Diagram(diagram.names, diagram.arrows, diagram.pairs[::-1])
        self.assert_same(cures(turned, ["m"], ["v", "z"]), [[2], [0, 3], [1, 3]])

    def test_search_through_all_subsets(self):
        chance = random.Random(51)
        sizes = {}
        for diagram in diagrams_within_bounds(chance, 500):
            acted, asked = some_parts(chance, diagram, 3, 3)
            told = cures(diagram, acted, asked)
            self.assert_same(told, cures_by_words(diagram, acted, asked))
            kind = min(len(told), 2), max(map(len, told))
            sizes[kind] = sizes.get(kind, 0) + 1
        self.assertLessEqual({(1, 0), (1, 1), (1, 2), (2, 1), (2, 2)}, set(sizes))

    def test_each_subset(self):
        chance = random.Random(52)
        for diagram in diagrams_within_bounds(chance, 100):
            acted, asked = some_parts(chance, diagram, 3, 3)
            for indices in subsets(range(len(diagram.pairs))):
                mixed = chance.sample(indices, len(indices))
                self.assert_same(is_cure(diagram, acted, asked, mixed),
                                 is_cure_by_words(diagram, acted, asked, indices))

    def test_an_index_twice(self):
        self.assert_same(is_cure(BOW, ["x"], ["y"], [0, 0]), True)
        self.assert_same(is_cure(SEVERAL, ["x"], ["z"], [1, 1]), False)
        self.assert_same(is_cure(SEVERAL, ["x"], ["z"], [2, 1, 2]), True)


class ListsTest(KindCase):

    def test_answers_are_new_throughout(self):
        told = cures(SEVERAL, ["x"], ["z"])
        told[0].append(7)
        told.append([8])
        self.assert_same(cures(SEVERAL, ["x"], ["z"]), [[0, 1], [1, 2]])

    def test_passed_lists_are_not_changed(self):
        acted, asked, indices = ["x"], ["z", "y"], [2, 0]
        cures(SEVERAL, acted, asked)
        is_cure(SEVERAL, acted, asked, indices)
        self.assertEqual((acted, asked, indices), (["x"], ["z", "y"], [2, 0]))
        self.assertEqual(SEVERAL.pairs, [("y", "z"), ("x", "y"), ("x", "z")])

    def test_by_position_and_by_name(self):
        self.assert_takes(cures, ["diagram", "acted", "asked"])
        self.assert_takes(is_cure, ["diagram", "acted", "asked", "indices"])
        self.assert_same(cures(asked=["y"], acted=["x"], diagram=BOW), [[0]])
        self.assert_same(is_cure(indices=[0], asked=["y"], acted=["x"], diagram=BOW), True)


class ErrorsTest(KindCase):

    def test_of_acted_and_asked(self):
        for called, rest in ((cures, ()), (is_cure, ([9],))):
            for wrong in ("q", "", "xy"):
                self.assert_raised(InvalidName, wrong, called, FRONT, ["x", wrong, "?"], ["x", "!"], *rest)
                self.assert_raised(InvalidName, wrong, called, FRONT, ["x"], ["x", wrong, "?"], *rest)
            self.assert_raised(InvalidName, "x", called, FRONT, ["x", "x"], ["x", "!"], *rest)
            self.assert_raised(InvalidName, "y", called, FRONT, ["x"], ["y", "y", "x"], *rest)
            self.assert_raised(InvalidDeed, "z", called, FRONT, ["x", "z"], ["y", "z", "x"], *rest)

    def test_indices(self):
        for wrong in (-1, -3, 3, 10 ** 30, -10 ** 30):
            self.assert_raised(InvalidNumber, wrong, is_cure, SEVERAL, ["x"], ["z"], [0, 2, wrong, 4])
        self.assert_raised(InvalidNumber, 0, is_cure, Diagram(["q"], [], []), [], ["q"], [0])
        self.assert_raised(InvalidNumber, 1, is_cure, indices=[1], asked=["y"], acted=["x"], diagram=BOW)
