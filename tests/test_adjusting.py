"""Points 2, 3 and 7, and deedshares/adjusting.py."""

import random
from fractions import Fraction
from itertools import permutations

from deedshares.adjusting import adjusted, adjusts, least_adjusting
from deedshares.diagrams import Diagram
from deedshares.effects import share_of, shares_after
from deedshares.errors import InvalidDeed, InvalidName, InvalidNumber, InvalidWeights
from deedshares.worlds import done, watched
from tests.cases import KindCase
from tests.plain import as_told, plain_adjusted, some_world
from tests.words import (adjusts_by_words, all_diagrams, diagrams_within_bounds, least_adjusting_by_words, some_parts,
                         some_ends, subsets, with_values)

FRONT = Diagram(["x", "z", "y"], [("x", "z"), ("z", "y")], [("x", "y")])
BOTH = Diagram(["z", "x", "y"], [("z", "x"), ("z", "y"), ("x", "y")], [])
BOW = Diagram(["x", "y"], [("x", "y")], [("x", "y")])
# Two things, a and b, meet at m on the way between what is set and what is asked; d is behind that meeting.
MEETING = Diagram(list("abmdxy"), [("a", "m"), ("b", "m"), ("m", "d"), ("a", "x"), ("b", "y"), ("x", "y")], [])
ONE = Diagram(["q"], [], [])
WEIGHTS = [3, 1, 1, 1, 1, 1, 1, 3]


class ExampleTest(KindCase):

    def test_of_the_document(self):
        told = [adjusts(BOTH, ["x"], ["y"], ["z"]), adjusts(BOTH, ["x"], ["y"], []),
                least_adjusting(BOTH, ["x"], ["y"]), least_adjusting(FRONT, ["x"], ["y"]),
                least_adjusting(FRONT, ["x"], ["z"]), adjusted(BOTH, WEIGHTS, [("x", 1)], ["y"], ["z"]),
                adjusted(BOTH, WEIGHTS, [("x", 1)], ["y"], [])]
        self.assert_same(told, [True, False, [["z"]], [], [[]], [(3, 8), (5, 8)], [(1, 3), (2, 3)]])


class MembersTest(KindCase):

    def test_set_or_asked_ones(self):
        for through in (["x"], ["y"], ["x", "z"], ["z", "y"], ["y", "x", "z"]):
            self.assert_same(adjusts(BOTH, ["x"], ["y"], through), False)
        self.assert_same(adjusts(Diagram(list("xyz"), [], []), ["x"], ["y"], ["x"]), False)
        self.assert_same(adjusts(Diagram(list("xyz"), [], []), ["x"], ["y"], ["y"]), False)
        self.assert_same(adjusts(Diagram(list("xyz"), [], []), ["x"], ["y"], ["z"]), True)

    def test_set_or_asked_ones_where_nothing_is_set_or_asked(self):
        self.assert_same(adjusts(BOTH, [], ["y"], ["y"]), False)
        self.assert_same(adjusts(BOTH, ["x"], [], ["x"]), False)
        self.assert_same(adjusts(ONE, [], ["q"], ["q"]), False)
        self.assert_same(adjusts(ONE, ["q"], [], ["q"]), False)
        self.assert_same(adjusts(ONE, [], [], ["q"]), True)

    def test_in_any_sequence(self):
        for through in permutations(["a", "b", "m"]):
            self.assert_same(adjusts(MEETING, ["x"], ["y"], list(through)), True)


class RoadsTest(KindCase):

    def test_things_of_a_road(self):
        line = Diagram(list("xmny"), [("x", "m"), ("m", "n"), ("n", "y")], [])
        self.assert_same(adjusts(line, ["x"], ["y"], []), True)
        for through in (["m"], ["n"], ["m", "n"]):
            self.assert_same(adjusts(line, ["x"], ["y"], through), False)
        self.assert_same(adjusts(line, ["x"], ["n"], ["y"]), False)
        self.assert_same(adjusts(line, ["m"], ["y"], ["x"]), True)

    def test_things_behind_a_road(self):
        behind = Diagram(list("xmydef"), [("x", "m"), ("m", "y"), ("m", "d"), ("d", "f"), ("y", "e")], [])
        for through in (["d"], ["e"], ["f"]):
            self.assert_same(adjusts(behind, ["x"], ["y"], through), False)
        self.assert_same(least_adjusting(behind, ["x"], ["y"]), [[]])

    def test_things_behind_the_first_one_alone(self):
        aside = Diagram(list("xyde"), [("x", "y"), ("x", "d"), ("d", "e")], [])
        for through in ([], ["d"], ["e"], ["e", "d"]):
            self.assert_same(adjusts(aside, ["x"], ["y"], through), True)

    def test_no_road_through_other_set_things(self):
        diagram = Diagram(list("xcwyu"), [("x", "c"), ("c", "w"), ("w", "y")], [])
        self.assert_same(adjusts(diagram, ["x", "w"], ["y"], ["c"]), True)
        self.assert_same(adjusts(diagram, ["w", "x"], ["y"], ["c", "u"]), True)
        self.assert_same(adjusts(diagram, ["x"], ["y"], ["c"]), False)
        joined = Diagram(diagram.names, diagram.arrows + [("u", "c"), ("u", "y")], [])
        self.assert_same(least_adjusting(joined, ["x", "w"], ["y"]), [["u"]])
        self.assert_same(adjusts(joined, ["x", "w"], ["y"], ["c"]), False)
        self.assert_same(adjusts(joined, ["x", "w"], ["y"], ["c", "u"]), True)

    def test_roads_through_other_asked_things(self):
        line = Diagram(list("xmyd"), [("x", "m"), ("m", "y"), ("y", "d")], [])
        self.assert_same(least_adjusting(line, ["x"], ["y", "m"]), [[]])
        self.assert_same(adjusts(line, ["x"], ["m", "y"], ["d"]), False)
        self.assert_same(adjusts(line, ["x"], ["m", "d"], ["y"]), False)


class DetoursTest(KindCase):

    def test_back_from_what_is_asked(self):
        back = Diagram(["x", "y"], [("y", "x")], [])
        self.assert_same(least_adjusting(back, ["x"], ["y"]), [])
        long = Diagram(["x", "c", "y"], [("y", "c"), ("c", "x")], [])
        self.assert_same(least_adjusting(long, ["x"], ["y"]), [["c"]])

    def test_an_arrow_beside_a_pair(self):
        self.assert_same(least_adjusting(BOW, ["x"], ["y"]), [])
        self.assert_same(least_adjusting(Diagram(BOW.names, BOW.arrows, []), ["x"], ["y"]), [[]])
        self.assert_same(least_adjusting(Diagram(BOW.names, [], BOW.pairs), ["x"], ["y"]), [])
        line = [("x", "m"), ("m", "y")]
        for pairs in ([("x", "m")], [("m", "x")], [("m", "y"), ("x", "m")]):
            self.assert_same(least_adjusting(Diagram(list("xmy"), line, pairs), ["x"], ["y"]), [])
        self.assert_same(least_adjusting(Diagram(list("xmy"), line, [("m", "y")]), ["x"], ["y"]), [[]])

    def test_pairs_beside_arrows_at_what_is_adjusted_for(self):
        arrows = [("z", "x"), ("z", "y"), ("x", "y")]
        for pairs in ([], [("x", "z")], [("y", "z")]):
            self.assert_same(least_adjusting(Diagram(list("xyz"), arrows, pairs), ["x"], ["y"]), [["z"]])
        self.assert_same(least_adjusting(Diagram(list("xyz"), arrows, [("x", "z"), ("y", "z")]), ["x"], ["y"]), [])

    def test_meetings(self):
        self.assert_same(least_adjusting(MEETING, ["x"], ["y"]), [[]])
        for through in ([], ["a"], ["b"], ["a", "m"], ["m", "b"], ["d", "a"], ["b", "a", "d", "m"]):
            self.assert_same(adjusts(MEETING, ["x"], ["y"], through), True)
        for through in (["m"], ["d"], ["d", "m"]):
            self.assert_same(adjusts(MEETING, ["x"], ["y"], through), False)
        hidden = Diagram(list("xmdy"), [("x", "y"), ("m", "d")], [("m", "x"), ("m", "y")])
        self.assert_same([adjusts(hidden, ["x"], ["y"], some) for some in ([], ["m"], ["d"])], [True, False, False])

    def test_a_meeting_that_begins_with_an_arrow_out_of_what_is_set(self):
        diagram = Diagram(list("xcyd"), [("x", "c"), ("y", "c"), ("c", "d")], [])
        self.assert_same([adjusts(diagram, ["x"], ["y"], some) for some in ([], ["c"], ["d"])], [True, False, False])

    def test_ways_that_meet_other_set_things(self):
        diagram = Diagram(list("xwy"), [("x", "w"), ("w", "y")], [])
        self.assert_same(least_adjusting(diagram, ["x", "w"], ["y"]), [[]])
        self.assert_same(least_adjusting(diagram, ["w"], ["y"]), [[]])
        back = Diagram(list("xwy"), [("w", "x"), ("w", "y")], [])
        self.assert_same(least_adjusting(back, ["x", "w"], ["y"]), [[]])
        self.assert_same(least_adjusting(back, ["x"], ["y"]), [["w"]])

    def test_ways_through_other_asked_things(self):
        diagram = Diagram(list("xyu"), [("x", "y")], [("x", "u"), ("u", "y")])
        self.assert_same(least_adjusting(diagram, ["x"], ["y"]), [[]])
        self.assert_same(least_adjusting(diagram, ["x"], ["y", "u"]), [])
        fork = Diagram(list("xuy"), [("u", "x"), ("u", "y")], [])
        self.assert_same(least_adjusting(fork, ["x"], ["y", "u"]), [])

    def test_each_set_and_each_asked_thing(self):
        diagram = Diagram(list("pqvwab"), [("p", "v"), ("p", "a"), ("q", "w"), ("q", "b"), ("v", "a"), ("w", "b")], [])
        self.assert_same(least_adjusting(diagram, ["v", "w"], ["a", "b"]), [["p", "q"]])
        self.assert_same(least_adjusting(diagram, ["v", "w"], ["a"]), [["p"]])
        self.assert_same(least_adjusting(diagram, ["w"], ["b", "a"]), [["q"]])
        self.assert_same(least_adjusting(diagram, ["w"], ["a"]), [[]])


class LeastTest(KindCase):

    def test_one_thing_and_nothing_set_or_asked(self):
        for acted, asked in (([], []), (["q"], []), ([], ["q"])):
            self.assert_same(least_adjusting(ONE, acted, asked), [[]])
        for diagram in (FRONT, BOTH, MEETING):
            self.assert_same(least_adjusting(diagram, [], ["y", "x"]), [[]])
            self.assert_same(least_adjusting(diagram, ["x", "y"], []), [[]])
            self.assert_same(adjusts(diagram, [], ["y"], ["x"]), True)

    def test_ordered_by_how_many_they_are(self):
        arrows = [("a", "x"), ("a", "b"), ("a", "c"), ("b", "y"), ("c", "y"), ("x", "y")]
        for names in ("abcxy", "bcaxy", "yxcba"):
            b_and_c = sorted(["b", "c"], key=names.index)
            self.assert_same(least_adjusting(Diagram(list(names), arrows, []), ["x"], ["y"]), [["a"], b_and_c])

    def test_then_by_places_in_the_sequence_of_the_diagram(self):
        arrows = [("z", "x"), ("z", "w"), ("w", "y"), ("x", "y")]
        self.assert_same(least_adjusting(Diagram(list("zwxy"), arrows, []), ["x"], ["y"]), [["z"], ["w"]])
        self.assert_same(least_adjusting(Diagram(list("ywxz"), arrows, []), ["x"], ["y"]), [["w"], ["z"]])
        arrows = [("a", "m"), ("b", "m"), ("a", "x"), ("b", "y"), ("m", "x"), ("m", "y"), ("x", "y")]
        self.assert_same(least_adjusting(Diagram(list("abmxy"), arrows, []), ["x"], ["y"]), [["a", "m"], ["b", "m"]])
        self.assert_same(least_adjusting(Diagram(list("mbaxy"), arrows, []), ["x"], ["y"]), [["m", "b"], ["m", "a"]])
        self.assert_same(least_adjusting(Diagram(list("xbmay"), arrows, []), ["x"], ["y"]), [["b", "m"], ["m", "a"]])

    def test_answers_are_new_throughout(self):
        told = least_adjusting(BOTH, ["x"], ["y"])
        told[0].append("q")
        told.append(["p"])
        self.assert_same(least_adjusting(BOTH, ["x"], ["y"]), [["z"]])


class WordsTest(KindCase):

    def test_all_diagrams_of_three_things(self):
        for diagram in all_diagrams(["c", "a", "b"]):
            for acted, asked in ((["c"], ["a"]), (["b"], ["c"]), (["c", "b"], ["a"]), (["a"], ["b", "c"])):
                for through in subsets(diagram.names):
                    if adjusts(diagram, acted, asked, through) != adjusts_by_words(diagram, acted, asked, through):
                        self.fail((diagram.names, diagram.arrows, diagram.pairs, acted, asked, through))
                self.assert_same(least_adjusting(diagram, acted, asked),
                                 least_adjusting_by_words(diagram, acted, asked))

    def test_drawn_diagrams(self):
        chance = random.Random(61)
        sizes = {}
        for drawn in diagrams_within_bounds(chance, 800):
            # Few hidden pairs leave more sets that may be adjusted for.
            diagram = Diagram(drawn.names, drawn.arrows, drawn.pairs[:chance.choice([0, 0, 1, 6])])
            acted, asked = some_ends(chance, diagram)
            told = least_adjusting(diagram, acted, asked)
            self.assert_same(told, least_adjusting_by_words(diagram, acted, asked))
            for _ in range(3):
                through = chance.sample(diagram.names, chance.randint(0, len(diagram.names)))
                self.assert_same(adjusts(diagram, acted, asked, through),
                                 adjusts_by_words(diagram, acted, asked, through))
            kind = min(len(told), 2), max(map(len, told), default=0)
            sizes[kind] = sizes.get(kind, 0) + 1
        self.assertLessEqual({(0, 0), (1, 0), (1, 1), (1, 2), (2, 1)}, set(sizes))

    def test_the_sum_is_the_share_just_where_a_set_may_be_adjusted_for(self):
        chance = random.Random(62)
        counts = {True: 0, False: 0}
        for diagram in diagrams_within_bounds(chance, 250):
            world = some_world(chance, diagram)
            acted, asked = some_ends(chance, diagram)
            deeds = with_values(chance, acted)
            left = [name for name in diagram.names if name not in acted + asked]
            for through in chance.choices(subsets(left), k=3):
                may = adjusts(diagram, acted, asked, through)
                told = adjusted(diagram, watched(world), deeds, asked, through)
                self.assertIs(told == done(world, deeds, asked), may)
                counts[may] += 1
        self.assertGreater(min(counts.values()), 100)


class AdjustedTest(KindCase):

    def test_nothing_set(self):
        for through in ([], ["z"], ["z", "y"]):
            self.assert_same(adjusted(BOTH, list(range(1, 9)), [], ["x"], through), [(7, 18), (11, 18)])

    def test_nothing_asked(self):
        for deeds, through in (([], []), ([("x", 1)], []), ([("x", 1)], ["z", "y"]), ([], ["z", "y", "x"])):
            self.assert_same(adjusted(BOTH, list(range(1, 9)), deeds, [], through), [(1, 1)])
        self.assert_same(adjusted(ONE, [1, 2], [("q", 1)], [], []), [(1, 1)])
        self.assert_same(adjusted(ONE, [1, 2], [], [], ["q"]), [(1, 1)])

    def test_nothing_to_adjust_for(self):
        self.assert_same(adjusted(BOTH, list(range(1, 9)), [("x", 0)], ["y"], []), [(3, 7), (4, 7)])
        self.assert_same(adjusted(ONE, [2, 4], [], ["q"], []), [(1, 3), (2, 3)])

    def test_whatever_may_be_adjusted_for(self):
        # Of 36, 14 have z = 0: 1 and 2 of them with x = 0; 22 have z = 1: 3 and 4 of them.
        one = Fraction(14, 36) * Fraction(1, 3) + Fraction(22, 36) * Fraction(3, 7)
        told = adjusted(FRONT, list(range(1, 9)), [("x", 0)], ["y"], ["z"])
        self.assert_same(told, [as_told(one), as_told(1 - one)])

    def test_asked_in_any_sequence(self):
        chance = random.Random(63)
        weights = [chance.randint(1, 99) for _ in range(16)]
        diagram = Diagram(list("abcd"), [], [])
        one = adjusted(diagram, weights, [("b", 1)], ["a", "d"], ["c"])
        other = adjusted(diagram, weights, [("b", 1)], ["d", "a"], ["c"])
        self.assert_same(other, [one[0], one[2], one[1], one[3]])
        self.assertNotEqual(one[1], one[2])

    def test_any_weights_by_plain_sums(self):
        chance = random.Random(64)
        for diagram in diagrams_within_bounds(chance, 200):
            most = chance.choice([3, 99, 10 ** 30])
            weights = [chance.randint(1, most) for _ in range(2 ** len(diagram.names))]
            acted, asked, through = some_parts(chance, diagram, 3, 3, 6)
            deeds = with_values(chance, acted)
            self.assert_same(adjusted(diagram, weights, deeds, asked, through),
                             plain_adjusted(diagram, weights, deeds, asked, through))

    def test_through_in_any_sequence(self):
        weights = [7 * at * at + 1 for at in range(32)]
        diagram = Diagram(list("abcde"), [], [])
        told = [adjusted(diagram, weights, [("b", 0)], ["d"], list(through)) for through in permutations("ace")]
        self.assertEqual(told, [told[0]] * 6)
        self.assert_same(told[0], plain_adjusted(diagram, weights, [("b", 0)], ["d"], ["a", "c", "e"]))

    def test_six_things(self):
        world = some_world(random.Random(65), MEETING)
        for through in (["a"], ["m", "a", "d"], ["a", "b", "m", "d"]):
            told = adjusted(MEETING, watched(world), [("x", 1)], ["y"], through)
            self.assert_same(told, done(world, [("x", 1)], ["y"]))
            self.assert_same(told, shares_after(MEETING, watched(world), [("x", 1)], ["y"]))

    def test_share_of_the_asked_ones_where_nothing_is_set(self):
        chance = random.Random(66)
        for diagram in diagrams_within_bounds(chance, 40):
            weights = [chance.randint(1, 9) for _ in range(2 ** len(diagram.names))]
            asked, through = some_parts(chance, diagram, 1, 6)
            told = adjusted(diagram, weights, [], asked, through)
            for name in asked:
                self.assert_same(told, [share_of(diagram, weights, [(name, value)]) for value in (0, 1)])


class ListsTest(KindCase):

    def test_by_position_and_by_name(self):
        self.assert_takes(adjusts, ["diagram", "acted", "asked", "through"])
        self.assert_takes(least_adjusting, ["diagram", "acted", "asked"])
        self.assert_takes(adjusted, ["diagram", "weights", "deeds", "asked", "through"])
        self.assert_same(adjusts(through=["z"], asked=["y"], acted=["x"], diagram=BOTH), True)
        self.assert_same(least_adjusting(asked=["y"], acted=["x"], diagram=BOTH), [["z"]])
        told = adjusted(through=["z"], asked=["y"], deeds=[("x", 1)], weights=WEIGHTS, diagram=BOTH)
        self.assert_same(told, [(3, 8), (5, 8)])

    def test_passed_lists_are_not_changed(self):
        acted, asked, through, deeds, weights = ["x"], ["y"], ["b", "a"], [("x", 1)], list(range(1, 65))
        kept = repr((acted, asked, through, deeds, weights))
        adjusts(MEETING, acted, asked, through)
        least_adjusting(MEETING, acted, asked)
        adjusted(MEETING, weights, deeds, asked, through)
        self.assertEqual(repr((acted, asked, through, deeds, weights)), kept)

    def test_answers_are_new(self):
        adjusted(BOTH, WEIGHTS, [("x", 1)], ["y"], ["z"]).pop()
        self.assert_same(adjusted(BOTH, WEIGHTS, [("x", 1)], ["y"], ["z"]), [(3, 8), (5, 8)])


class SetsErrorsTest(KindCase):

    def test_of_acted_and_asked(self):
        for called, rest in ((least_adjusting, ()), (adjusts, (["?", "?"],))):
            for wrong in ("q", "", "xy", "X"):
                self.assert_raised(InvalidName, wrong, called, FRONT, ["x", wrong, "?"], ["x", "!"], *rest)
                self.assert_raised(InvalidName, wrong, called, FRONT, ["x"], ["x", wrong, "?"], *rest)
            self.assert_raised(InvalidName, "x", called, FRONT, ["x", "x"], ["x", "!"], *rest)
            self.assert_raised(InvalidName, "y", called, FRONT, ["x"], ["y", "y", "x"], *rest)
            self.assert_raised(InvalidDeed, "z", called, FRONT, ["x", "z"], ["y", "z", "x"], *rest)

    def test_of_through(self):
        for wrong in ("q", "", "xy", "X"):
            self.assert_raised(InvalidName, wrong, adjusts, FRONT, ["x"], ["y"], ["x", wrong, "?"])
        self.assert_raised(InvalidName, "x", adjusts, FRONT, ["x"], ["y"], ["z", "x", "x", "z"])
        self.assert_raised(InvalidName, "z", adjusts, through=["z", "z"], asked=[], acted=[], diagram=FRONT)


class AdjustedErrorsTest(KindCase):

    def test_weights(self):
        for wrong in (0, -1, -10 ** 30):
            self.assert_raised(InvalidWeights, 2, adjusted, BOTH, [1, 1, wrong, 0], [("?", 2)], ["!"], ["."])
        for number in (0, 7, 9, 16):
            self.assert_raised(InvalidNumber, number, adjusted, BOTH, [1] * number, [("?", 2)], ["!"], ["."])
        self.assert_raised(InvalidWeights, 8, adjusted, BOTH, [1] * 8 + [0], [], [], [])

    def test_deeds_and_asked(self):
        for wrong in ("q", "", "xy"):
            self.assert_raised(InvalidName, wrong, adjusted, BOTH, WEIGHTS, [("x", 2), (wrong, 1)], ["!"], ["."])
            self.assert_raised(InvalidName, wrong, adjusted, BOTH, WEIGHTS, [("x", 1)], ["x", wrong, "?"], ["."])
        self.assert_raised(InvalidName, "x", adjusted, BOTH, WEIGHTS, [("x", 2), ("x", 1)], ["!"], ["."])
        for wrong in (-1, 2, 10 ** 30):
            self.assert_raised(InvalidNumber, wrong, adjusted, BOTH, WEIGHTS, [("x", 0), ("y", wrong), ("z", 3)],
                               ["!"], ["."])
        self.assert_raised(InvalidDeed, "x", adjusted, BOTH, WEIGHTS, [("z", 1), ("x", 1)], ["y", "x", "z"], ["."])

    def test_through(self):
        for wrong in ("q", "", "xy"):
            self.assert_raised(InvalidName, wrong, adjusted, BOTH, WEIGHTS, [("x", 1)], ["y"], ["x", wrong, "?"])
        self.assert_raised(InvalidName, "z", adjusted, BOTH, WEIGHTS, [("x", 1)], ["y"], ["x", "z", "z"])
        self.assert_raised(InvalidDeed, "y", adjusted, BOTH, WEIGHTS, [("x", 1)], ["y"], ["z", "y", "x"])
        self.assert_raised(InvalidDeed, "x", adjusted, BOTH, WEIGHTS, [("x", 1)], ["y"], ["z", "x", "y"])
        self.assert_raised(InvalidDeed, "q", adjusted, ONE, [1, 1], [], ["q"], ["q"])
        self.assert_raised(InvalidDeed, "q", adjusted, through=["q"], asked=[], deeds=[("q", 0)], weights=[1, 1],
                           diagram=ONE)

    def test_diagram_stays_after_an_error(self):
        diagram = Diagram(["z", "x", "y"], [("z", "x"), ("z", "y"), ("x", "y")], [])
        self.assert_raised(InvalidDeed, "x", adjusted, diagram, WEIGHTS, [("x", 1)], ["y"], ["x"])
        self.assert_raised(InvalidName, "?", adjusts, diagram, ["x"], ["y"], ["?"])
        self.assertEqual(diagram, BOTH)
        self.assert_same(least_adjusting(diagram, ["x"], ["y"]), [["z"]])
