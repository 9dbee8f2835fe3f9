"""Points 2, 3, 4 and 6, and the functions of deedshares/told.py."""

import random

from deedshares.diagrams import Diagram
from deedshares.errors import InvalidDeed, InvalidName
from deedshares.told import groups, is_told, steps, stuck, told_pairs
from tests.cases import KindCase
from tests.words import (all_diagrams, diagrams_within_bounds, groups_among, some_parts, steps_by_words, stuck_by_words,
                         subsets, things_that_count, widest_hold)

BOW = Diagram(["x", "y"], [("x", "y")], [("x", "y")])
FRONT = Diagram(["x", "z", "y"], [("x", "z"), ("z", "y")], [("x", "y")])
NAPKIN = Diagram(["w", "z", "x", "y"], [("w", "z"), ("z", "x"), ("x", "y")], [("w", "x"), ("w", "y")])
CHAIN = Diagram(list("abcd"), [("b", "a"), ("d", "b")], [("b", "c"), ("c", "d"), ("d", "a")])
LONG = Diagram(list("abcde"), [("d", "c"), ("c", "e"), ("d", "e"), ("e", "b"), ("d", "b")],
               [("d", "c"), ("e", "a"), ("d", "a"), ("a", "b"), ("b", "c")])
DEEP = Diagram(list("abcde"), [("d", "b"), ("c", "a"), ("a", "b")], [("d", "b"), ("c", "e"), ("d", "c"), ("a", "e")])
OF_ACTED = (steps, is_told, stuck)


class ExampleTest(KindCase):

    def test_of_the_document(self):
        told = [groups(FRONT), steps(FRONT, ["x"], ["y"]), is_told(FRONT, ["x"], ["y"]), steps(BOW, ["x"], ["y"]),
                stuck(BOW, ["x"], ["y"]), steps(NAPKIN, ["x"], ["y"]), stuck(NAPKIN, ["x"], ["y"]), told_pairs(BOW),
                is_told(BOW, [], ["y"])]
        self.assert_same(told, [[["x", "y"], ["z"]], [[["z"]], [["x", "y"], ["y"]]], True, [[["x", "y"]]],
                                (["y"], ["x", "y"]), [[["w", "x", "y"], ["x", "y"], ["y"]]], None, [("y", "x")], True])


class GroupsTest(KindCase):

    def test_none_joined(self):
        self.assert_same(groups(Diagram(["q"], [], [])), [["q"]])
        self.assert_same(groups(Diagram(list("cab"), [("c", "a"), ("a", "b")], [])), [["c"], ["a"], ["b"]])

    def test_chains_stars_and_rings(self):
        names = list("fbdace")
        chain = [("a", "b"), ("c", "b"), ("c", "d"), ("e", "d")]
        star = [("e", "a"), ("b", "e"), ("e", "c")]
        ring = [("a", "b"), ("b", "c"), ("c", "d"), ("d", "a")]
        self.assert_same(groups(Diagram(names, [], chain)), [["f"], ["b", "d", "a", "c", "e"]])
        self.assert_same(groups(Diagram(names, [("e", "f")], star)), [["f"], ["b", "a", "c", "e"], ["d"]])
        self.assert_same(groups(Diagram(names, [("d", "f")], ring)), [["f"], ["b", "d", "a", "c"], ["e"]])

    def test_several_ordered_by_their_first_things(self):
        diagram = Diagram(list("fedcba"), [], [("a", "e"), ("c", "f"), ("b", "d")])
        self.assert_same(groups(diagram), [["f", "c"], ["e", "a"], ["d", "b"]])

    def test_by_joining_one_pair_after_another(self):
        for diagram in diagrams_within_bounds(random.Random(1), 500):
            self.assert_same(groups(diagram), groups_among(diagram, diagram.names))


class StepsTest(KindCase):

    def test_many_steps(self):
        self.assert_same(steps(CHAIN, ["b"], ["a"]), [[["a", "b", "c", "d"], ["a", "b", "d"], ["a", "d"], ["a"]]])
        self.assert_same(steps(LONG, ["e"], ["b"]),
                         [[["a", "b", "c", "d", "e"], ["b", "c", "d", "e"], ["b", "c", "d"], ["b", "d"], ["b"]],
                          [["a", "b", "c", "d", "e"], ["d"]]])

    def test_several_groups(self):
        self.assert_same(steps(DEEP, ["c"], ["b"]),
                         [[["a", "b", "c", "d", "e"], ["a", "c"], ["a"]],
                          [["a", "b", "c", "d", "e"], ["a", "b", "c", "d"], ["b", "c", "d"], ["b", "d"]]])

    def test_stuck_within_the_first_set(self):
        diagram = Diagram(["w", "x", "y"], [("x", "y")], [("w", "x"), ("x", "y")])
        self.assert_same(steps(diagram, ["x"], ["y"]), [[["w", "x", "y"], ["x", "y"]]])
        self.assert_same(stuck(diagram, ["x"], ["y"]), (["y"], ["x", "y"]))

    def test_nothing_set(self):
        self.assert_same(steps(BOW, [], ["y"]), [[["x", "y"]]])
        self.assert_same(steps(BOW, [], ["x"]), [[["x", "y"], ["x"]]])
        self.assert_same(steps(NAPKIN, [], ["z"]), [[["w", "x", "y"], ["w"]], [["z"]]])
        chance = random.Random(2)
        for diagram in diagrams_within_bounds(chance, 200):
            self.assert_same(stuck(diagram, [], *some_parts(chance, diagram, 3)), None)

    def test_nothing_asked(self):
        for acted in ([], ["x"], ["y", "x"]):
            self.assert_same([steps(BOW, acted, []), is_told(BOW, acted, []), stuck(BOW, acted, [])],
                             [[], True, None])

    def test_several_asked_in_any_sequence(self):
        for asked in (["z", "y"], ["y", "z"]):
            self.assert_same(steps(FRONT, ["x"], asked), [[["z"]], [["x", "y"], ["y"]]])
        for asked in (["x", "y"], ["y", "x"]):
            self.assert_same(steps(FRONT, ["z"], asked), [[["x", "y"]]])
        self.assert_same(stuck(BOW, ["x"], ["y"]), (["y"], ["x", "y"]))
        self.assert_same(is_told(NAPKIN, ["z"], ["y", "w"]), True)

    def test_things_set_that_do_not_matter(self):
        self.assert_same(steps(BOW, ["y"], ["x"]), [[["x", "y"], ["x"]]])
        self.assert_same(steps(NAPKIN, ["z", "x", "w"], ["y"]), [[["w", "x", "y"], ["x", "y"], ["y"]]])

    def test_all_diagrams_of_three_things(self):
        parts = [(acted, asked) for acted in subsets("abc") for asked in subsets("abc") if not set(acted) & set(asked)]
        for diagram in all_diagrams(["b", "c", "a"]):
            for acted, asked in parts:
                self.assert_same(steps(diagram, acted, asked), steps_by_words(diagram, acted, asked))

    def test_more_things(self):
        chance = random.Random(4)
        for diagram in diagrams_within_bounds(chance, 1500):
            acted, asked = some_parts(chance, diagram, 3, 3)
            self.assert_same(steps(diagram, acted, asked), steps_by_words(diagram, acted, asked))


class StuckTest(KindCase):

    def test_first_of_several(self):
        diagram = Diagram(list("yxz"), [("x", "y"), ("x", "z")], [("x", "y"), ("x", "z")])
        self.assert_same(steps(diagram, ["x"], ["z", "y"]), [[["y", "x", "z"], ["y", "x"]],
                                                             [["y", "x", "z"], ["x", "z"]]])
        self.assert_same(stuck(diagram, ["x"], ["z", "y"]), (["y"], ["y", "x"]))
        self.assert_same(stuck(diagram, ["x"], ["z"]), (["z"], ["x", "z"]))

    def test_not_the_first_group(self):
        diagram = Diagram(["a", "x", "y"], [("a", "y"), ("x", "y")], [("x", "y")])
        self.assert_same(steps(diagram, ["x"], ["y"]), [[["a"]], [["x", "y"]]])
        self.assert_same(stuck(diagram, ["x"], ["y"]), (["y"], ["x", "y"]))

    def test_group_of_several(self):
        diagram = Diagram(["x", "a", "b"], [("x", "a"), ("a", "b")], [("a", "b"), ("x", "b")])
        self.assert_same(stuck(diagram, ["x"], ["b"]), (["a", "b"], ["x", "a", "b"]))

    def test_the_widest_set_that_holds_a_group(self):
        chance = random.Random(5)
        for diagram in diagrams_within_bounds(chance, 400):
            acted, asked = some_parts(chance, diagram, 3, 3)
            held = [(group, widest_hold(diagram, group))
                    for group in groups_among(diagram, things_that_count(diagram, acted, asked))]
            self.assert_same([path[-1] for path in steps(diagram, acted, asked)], [widest for _, widest in held])
            caught = [(group, widest) for group, widest in held if group != widest]
            self.assert_same(stuck(diagram, acted, asked), caught[0] if caught else None)
            self.assert_same(is_told(diagram, acted, asked), not caught)


class PairsTest(KindCase):

    def test_small_ones(self):
        self.assert_same(told_pairs(Diagram(["q"], [], [])), [])
        self.assert_same(told_pairs(Diagram(["b", "a"], [], [])), [("b", "a"), ("a", "b")])
        self.assert_same(told_pairs(Diagram(["b", "a"], [("a", "b")], [("a", "b")])), [("b", "a")])
        self.assert_same(told_pairs(FRONT), [("x", "z"), ("x", "y"), ("z", "x"), ("z", "y"), ("y", "x"), ("y", "z")])

    def test_each_two_things(self):
        for diagram in diagrams_within_bounds(random.Random(6), 150):
            names = diagram.names
            told = [(one, other) for one in names for other in names
                    if one != other and stuck_by_words(diagram, [one], [other]) is None]
            self.assert_same(told_pairs(diagram), told)


class ListsTest(KindCase):

    def test_answers_are_new_throughout(self):
        asks = [lambda: groups(LONG), lambda: steps(LONG, ["e"], ["b", "c"]), lambda: list(stuck(BOW, ["x"], ["y"])),
                lambda: told_pairs(LONG)]
        for ask in asks:
            kept = repr(ask())
            told = ask()
            for part in told:
                if isinstance(part, list):
                    for deeper in part:
                        if isinstance(deeper, list):
                            deeper.append("?")
                    part.append("?")
            told.append("?")
            self.assertEqual(repr(ask()), kept)

    def test_no_list_stands_twice_in_one_answer(self):
        diagram = Diagram(list("abc"), [("a", "b"), ("b", "c")], [("a", "b"), ("b", "c")])
        for told in (steps(diagram, ["b"], ["a", "c"]), steps(LONG, ["e"], ["b", "c"]), steps(DEEP, ["c"], ["b"])):
            within = [step for path in told for step in path]
            self.assertEqual(len(set(map(id, within))), len(within))
        group, around = stuck(BOW, ["x"], ["y"])
        self.assertIsNot(group, around)

    def test_passed_lists_are_not_changed(self):
        acted, asked = ["e", "d"], ["b", "a"]
        for called in OF_ACTED:
            called(LONG, acted, asked)
            self.assertEqual((acted, asked), (["e", "d"], ["b", "a"]))
        self.assertEqual(LONG.names, list("abcde"))

    def test_by_position_and_by_name(self):
        for called in OF_ACTED:
            self.assert_takes(called, ["diagram", "acted", "asked"])
            self.assert_same(called(asked=["y"], acted=["x"], diagram=BOW), called(BOW, ["x"], ["y"]))
        for called in (groups, told_pairs):
            self.assert_takes(called, ["diagram"])
            self.assert_same(called(diagram=FRONT), called(FRONT))


class ErrorsTest(KindCase):

    def test_names(self):
        for called in OF_ACTED:
            for wrong in ("q", "", "xy", "X", "~"):
                self.assert_raised(InvalidName, wrong, called, FRONT, ["x", wrong, "?"], ["y"])
                self.assert_raised(InvalidName, wrong, called, FRONT, ["x"], ["y", wrong, "?"])
                self.assert_raised(InvalidName, wrong, called, FRONT, [], [wrong])
            self.assert_raised(InvalidName, "z", called, FRONT, ["x", "z", "z", "x"], ["y"])
            self.assert_raised(InvalidName, "y", called, FRONT, ["x"], ["z", "y", "y", "z"])

    def test_asked_of_what_is_set(self):
        for called in OF_ACTED:
            self.assert_raised(InvalidDeed, "z", called, FRONT, ["x", "z"], ["y", "z", "x"])
            self.assert_raised(InvalidDeed, "x", called, FRONT, ["x", "z"], ["x", "z"])

    def test_several_at_once(self):
        for called in OF_ACTED:
            self.assert_raised(InvalidName, "?", called, FRONT, ["x", "?"], ["x", "!"])
            self.assert_raised(InvalidName, "x", called, FRONT, ["x", "x"], ["x", "!"])
            self.assert_raised(InvalidName, "!", called, FRONT, ["x"], ["x", "!"])
            self.assert_raised(InvalidName, "x", called, FRONT, ["x"], ["x", "x"])
            self.assert_raised(InvalidDeed, "x", called, asked=["x"], acted=["x"], diagram=FRONT)
