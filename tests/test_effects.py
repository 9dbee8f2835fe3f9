"""Points 2, 3, 5, 6, 7 and 8, and deedshares/effects.py."""

import random
from fractions import Fraction
from itertools import permutations

from deedshares.diagrams import Diagram
from deedshares.effects import share_of, shares_after, shares_given
from deedshares.errors import InvalidDeed, InvalidName, InvalidNumber, InvalidWeights, NotTold
from deedshares.told import stuck
from deedshares.worlds import World, done, two_worlds, watched
from tests.cases import KindCase
from tests.plain import among, as_told, plain_done, some_world
from tests.words import diagrams_within_bounds, is_barred, some_parts, stuck_by_words, subsets, with_values

BOW = Diagram(["x", "y"], [("x", "y")], [("x", "y")])
FRONT = Diagram(["x", "z", "y"], [("x", "z"), ("z", "y")], [("x", "y")])
NAPKIN = Diagram(["w", "z", "x", "y"], [("w", "z"), ("z", "x"), ("x", "y")], [("w", "x"), ("w", "y")])
BOTH = Diagram(["z", "x", "y"], [("z", "x"), ("z", "y"), ("x", "y")], [])
BESIDE = Diagram(["x", "y", "z"], [("x", "y")], [("x", "y")])
WEIGHTS = [22, 10, 7, 9, 9, 7, 10, 22]
BOW_WEIGHTS = [3, 1, 1, 3]


def times_as_told(weights, chance):
    """The table times a number that brings its weights next to 10 ** 30."""
    number = 10 ** 30 // max(weights) - chance.randint(0, 9)
    return [weight * number for weight in weights]


def moved_by_words(chance, diagram, acted, asked, given):
    """What is set and what remains of what is given, when given things move in a drawn sequence."""
    acted, given = list(acted), list(given)
    while True:
        may = [name for name in given if may_move(diagram, acted, asked, given, name)]
        if not may:
            return acted, given
        name = chance.choice(may)
        given.remove(name)
        acted.append(name)


def may_move(diagram, acted, asked, given, name):
    arrows = [(one, other) for one, other in diagram.arrows if other not in acted and one != name]
    pairs = [pair for pair in diagram.pairs if not set(pair) & set(acted)]
    others = [other for other in given if other != name]
    return is_barred(Diagram(diagram.names, arrows, pairs), [name], asked, acted + others)


class ExampleTest(KindCase):

    def test_of_the_document(self):
        told = [share_of(FRONT, WEIGHTS, [("x", 1), ("y", 1)]), shares_after(FRONT, WEIGHTS, [("x", 1)], ["y"]),
                shares_given(FRONT, WEIGHTS, [("x", 1)], ["y"], [("z", 1)]), shares_after(FRONT, WEIGHTS, [], [])]
        self.assert_same(told, [(29, 96), [(11, 24), (13, 24)], [(3, 8), (5, 8)], [(1, 1)]])


class ShareTest(KindCase):

    def test_any_table(self):
        self.assert_same(share_of(BOTH, [3, 1, 1, 1, 1, 1, 1, 3], [("z", 0)]), (1, 2))
        self.assert_same(share_of(BOTH, [3, 1, 1, 1, 1, 1, 1, 3], [("y", 1), ("z", 0)]), (1, 6))
        self.assert_same(share_of(BOTH, list(range(1, 9)), [("x", 1), ("y", 0), ("z", 1)]), (7, 36))
        self.assert_same(share_of(Diagram(["q"], [], []), [1, 10 ** 30], [("q", 0)]), (1, 10 ** 30 + 1))

    def test_event_of_nothing(self):
        self.assert_same(share_of(FRONT, WEIGHTS, []), (1, 1))

    def test_as_done_of_no_deed(self):
        chance = random.Random(31)
        for diagram in diagrams_within_bounds(chance, 150):
            world = some_world(chance, diagram)
            event = with_values(chance, *some_parts(chance, diagram, 6))
            things, values = [name for name, _ in event], [value for _, value in event]
            at = int("0" + "".join(map(str, values)), 2)
            self.assert_same(share_of(diagram, watched(world), event), done(world, [], things)[at])

    def test_by_position_and_by_name(self):
        self.assert_takes(share_of, ["diagram", "weights", "event"])
        event = [("x", 1), ("y", 1)]
        self.assert_same(share_of(event=event, weights=WEIGHTS, diagram=FRONT), (29, 96))
        self.assertEqual((event, WEIGHTS), ([("x", 1), ("y", 1)], [22, 10, 7, 9, 9, 7, 10, 22]))

    def test_errors(self):
        for wrong in ("q", "", "xy"):
            self.assert_raised(InvalidName, wrong, share_of, FRONT, WEIGHTS, [("x", 2), (wrong, 1), ("?", 0)])
        self.assert_raised(InvalidName, "x", share_of, FRONT, WEIGHTS, [("x", 2), ("y", 1), ("x", 2)])
        for wrong in (-1, 2, 10 ** 30):
            self.assert_raised(InvalidNumber, wrong, share_of, FRONT, WEIGHTS, [("x", 0), ("y", wrong), ("z", 3)])


class AfterTest(KindCase):

    def test_small_ones(self):
        self.assert_same(shares_after(BOW, BOW_WEIGHTS, [("y", 1)], ["x"]), [(1, 2), (1, 2)])
        self.assert_same(shares_after(BOTH, [3, 1, 1, 1, 1, 1, 1, 3], [("x", 1)], ["y"]), [(3, 8), (5, 8)])
        self.assert_same(shares_after(Diagram(["q"], [], []), [1, 2], [("q", 0)], []), [(1, 1)])

    def test_nothing_set(self):
        self.assert_same(shares_after(BOW, [1, 2, 3, 4], [], ["y", "x"]), [(1, 10), (3, 10), (1, 5), (2, 5)])
        self.assert_same(shares_after(BOW, [1, 2, 3, 4], [], ["x"]), [(3, 10), (7, 10)])

    def test_nothing_asked(self):
        for deeds in ([], [("x", 1)], [("y", 0), ("z", 1), ("x", 1)]):
            self.assert_same(shares_after(FRONT, WEIGHTS, deeds, []), [(1, 1)])

    def test_asked_in_any_sequence(self):
        told = shares_after(FRONT, WEIGHTS, [("x", 1)], ["y", "z"])
        self.assert_same(told, [(5, 24), (1, 4), (1, 8), (5, 12)])
        self.assert_same(shares_after(FRONT, WEIGHTS, [("x", 1)], ["z", "y"]), [told[0], told[2], told[1], told[3]])

    def test_as_done_in_the_world(self):
        chance = random.Random(32)
        counts = {}
        for diagram in diagrams_within_bounds(chance, 350):
            world = some_world(chance, diagram, 1, chance.choice([2, 99]))
            weights = watched(world)
            for _ in range(3):
                acted, asked = some_parts(chance, diagram, 3, 3)
                deeds = with_values(chance, acted)
                found = stuck_by_words(diagram, acted, asked)
                if found is None:
                    self.assert_same(shares_after(diagram, weights, deeds, asked), done(world, deeds, asked))
                else:
                    self.assert_raised(NotTold, found, shares_after, diagram, weights, deeds, asked)
                counts[found is None] = counts.get(found is None, 0) + 1
        self.assertGreater(min(counts[True], counts[False]), 30)

    def test_as_plain_sums_in_the_world(self):
        chance = random.Random(33)
        for diagram in diagrams_within_bounds(chance, 60, 4):
            world = some_world(chance, diagram)
            acted, asked = some_parts(chance, diagram, 3, 3)
            deeds = with_values(chance, acted)
            if stuck(diagram, acted, asked) is None:
                self.assert_same(shares_after(diagram, watched(world), deeds, asked), plain_done(world, deeds, asked))

    def test_each_deed_of_the_napkin(self):
        world = some_world(random.Random(34), NAPKIN)
        for acted in subsets(NAPKIN.names):
            for asked in subsets([name for name in NAPKIN.names if name not in acted]):
                deeds = with_values(random.Random(35), acted)
                if stuck(NAPKIN, acted, asked) is None:
                    self.assert_same(shares_after(NAPKIN, watched(world), deeds, asked), done(world, deeds, asked))

    def test_a_table_times_a_number(self):
        chance = random.Random(36)
        for diagram in diagrams_within_bounds(chance, 60):
            world = some_world(chance, diagram, 1, 3)
            weights = watched(world)
            acted, asked = some_parts(chance, diagram, 3, 3)
            deeds = with_values(chance, acted)
            if max(weights) < 10 ** 29 and stuck(diagram, acted, asked) is None:
                great = times_as_told(weights, chance)
                self.assert_same(shares_after(diagram, great, deeds, asked), done(world, deeds, asked))
        great = [weight * (10 ** 30 // 22) for weight in WEIGHTS]
        self.assert_same(shares_after(FRONT, great, [("x", 1)], ["y"]), [(11, 24), (13, 24)])

    def test_worlds_with_weights_of_0(self):
        chance = random.Random(37)
        for diagram in diagrams_within_bounds(chance, 400, 5):
            held = two_worlds(diagram, *some_parts(chance, diagram, 3, 3))
            acted, asked = some_parts(chance, diagram, 3, 3)
            deeds = with_values(chance, acted)
            if held is not None and stuck(diagram, acted, asked) is None:
                for world in held:
                    self.assert_same(shares_after(diagram, watched(world), deeds, asked), done(world, deeds, asked))

    def test_not_told(self):
        self.assert_raised(NotTold, (["y"], ["x", "y"]), shares_after, BOW, BOW_WEIGHTS, [("x", 1)], ["y"])
        two = Diagram(list("yxz"), [("x", "y"), ("x", "z")], [("x", "y"), ("x", "z")])
        self.assert_raised(NotTold, (["y"], ["y", "x"]), shares_after, two, [1] * 8, [("x", 1)], ["z", "y"])
        self.assert_raised(NotTold, (["z"], ["x", "z"]), shares_after, two, [1] * 8, [("x", 1)], ["z"])


class GivenTest(KindCase):

    def test_nothing_given(self):
        chance = random.Random(41)
        self.assert_same(shares_given(FRONT, WEIGHTS, [("x", 1)], ["y"], []), [(11, 24), (13, 24)])
        self.assert_raised(NotTold, (["y"], ["x", "y"]), shares_given, BOW, BOW_WEIGHTS, [("x", 1)], ["y"], [])
        for diagram in diagrams_within_bounds(chance, 60):
            weights = watched(some_world(chance, diagram))
            acted, asked = some_parts(chance, diagram, 3, 3)
            deeds = with_values(chance, acted)
            if stuck(diagram, acted, asked) is None:
                self.assert_same(shares_given(diagram, weights, deeds, asked, []),
                                 shares_after(diagram, weights, deeds, asked))

    def test_nothing_set(self):
        self.assert_same(shares_given(BOW, [1, 2, 3, 4], [], ["y"], [("x", 1)]), [(3, 7), (4, 7)])
        self.assert_same(shares_given(BOW, [1, 2, 3, 4], [], ["x"], [("y", 0)]), [(1, 4), (3, 4)])

    def test_nothing_asked(self):
        for given in ([], [("y", 1)], [("y", 1), ("z", 0)]):
            self.assert_same(shares_given(FRONT, WEIGHTS, [("x", 1)], [], given), [(1, 1)])
        self.assert_same(shares_given(BOW, BOW_WEIGHTS, [("x", 1)], [], [("y", 0)]), [(1, 1)])
        self.assert_same(shares_given(BOW, BOW_WEIGHTS, [], [], []), [(1, 1)])

    def test_given_thing_that_moves_makes_it_told(self):
        diagram = Diagram(["x", "z", "y"], [("x", "z"), ("z", "y")], [("x", "z")])
        self.assertIsNotNone(stuck(diagram, ["x"], ["z", "y"]))
        world = some_world(random.Random(42), diagram)
        for x in (0, 1):
            for z in (0, 1):
                shares = among(done(world, [("x", x)], ["y", "z"]), ["y"], [("z", z)])
                self.assert_same(shares_given(diagram, watched(world), [("x", x)], ["y"], [("z", z)]), shares)

    def test_two_given_things_that_move(self):
        diagram = Diagram(["x", "a", "b", "y"], [("x", "a"), ("x", "b"), ("a", "b"), ("b", "y")], [("x", "a")])
        self.assertIsNotNone(stuck(diagram, ["x"], ["y", "a", "b"]))
        self.assertIsNotNone(stuck(diagram, ["x"], ["y", "b"]))
        world = some_world(random.Random(43), diagram)
        for given in (list(order) for order in permutations([("a", 1), ("b", 0)])):
            shares = among(done(world, [("x", 1)], ["y"] + [name for name, _ in given]), ["y"], given)
            self.assert_same(shares_given(diagram, watched(world), [("x", 1)], ["y"], given), shares)

    def test_no_way_meets_at_what_is_set(self):
        arrows = Diagram(list("mxhub"), [("b", "m"), ("h", "m"), ("x", "u")], [("h", "u"), ("x", "u")])
        self.assert_same(stuck(arrows, ["x", "m"], ["b", "u"]), (["u"], ["x", "u"]))
        world = some_world(random.Random(46), arrows)
        told = shares_given(arrows, watched(world), [("x", 1), ("m", 0)], ["b"], [("u", 1)])
        self.assert_same(told, done(world, [], ["b"]))
        for pairs in ([("x", "y"), ("x", "z")], [("y", "x"), ("z", "x")]):
            hidden = Diagram(["z", "x", "y"], [("x", "z")], pairs)
            self.assertIsNotNone(stuck(hidden, ["x"], ["y", "z"]))
            world = some_world(random.Random(47), hidden)
            told = shares_given(hidden, watched(world), [("x", 0)], ["y"], [("z", 1)])
            self.assert_same(told, done(world, [], ["y"]))

    def test_arrows_out_of_other_things_stay(self):
        line = Diagram(["x", "a", "z", "y"], [("x", "a"), ("x", "z"), ("a", "z"), ("a", "y")], [("x", "z")])
        self.assert_raised(NotTold, (["z"], ["x", "z"]), shares_given, line, [1] * 16, [("x", 1)], ["y"], [("z", 0)])

    def test_not_told_of_what_does_not_move(self):
        behind = Diagram(["x", "y", "z"], [("x", "z"), ("y", "z")], [("x", "z")])
        self.assertIsNone(stuck(behind, ["x"], ["y"]))
        self.assert_raised(NotTold, (["z"], ["x", "z"]), shares_given, behind, [1] * 8, [("x", 1)], ["y"], [("z", 1)])

    def test_not_told_with_moved_things_set(self):
        diagram = Diagram(["x", "z", "y"], [("x", "y"), ("z", "y")], [("x", "y")])
        self.assert_raised(NotTold, (["y"], ["x", "y"]), shares_given, diagram, [1] * 8, [("x", 0)], ["y"], [("z", 1)])

    def test_as_done_in_the_world_by_moves_in_any_sequence(self):
        chance = random.Random(44)
        counts = {}
        for diagram in diagrams_within_bounds(chance, 500):
            world = some_world(chance, diagram, 1, chance.choice([2, 99]))
            acted, asked, things = some_parts(chance, diagram, 2, 3, 3)
            deeds, given = with_values(chance, acted), with_values(chance, things)
            all_acted, left = moved_by_words(chance, diagram, acted, asked, things)
            found = stuck_by_words(diagram, all_acted, asked + left)
            passed = diagram, watched(world), deeds, asked, given
            if found is None:
                shares = among(done(world, deeds, asked + things), asked, given)
                self.assert_same(shares_given(*passed), shares)
            else:
                self.assert_raised(NotTold, found, shares_given, *passed)
            kind = found is None, len(left) < len(things)
            counts[kind] = counts.get(kind, 0) + 1
        self.assertGreater(counts[True, True], 50)
        self.assertGreater(counts[True, False], 50)
        self.assertGreater(min(counts[False, True], counts[False, False]), 5)

    def test_as_plain_sums_in_the_world(self):
        chance = random.Random(45)
        for diagram in diagrams_within_bounds(chance, 60, 4):
            world = some_world(chance, diagram)
            acted, asked, things = some_parts(chance, diagram, 1, 2, 2)
            deeds, given = with_values(chance, acted), with_values(chance, things)
            all_acted, left = moved_by_words(chance, diagram, acted, asked, things)
            if stuck(diagram, all_acted, asked + left) is None:
                self.assert_same(shares_given(diagram, watched(world), deeds, asked, given),
                                 among(plain_done(world, deeds, asked + things), asked, given))

    def test_a_table_times_a_number(self):
        great = [weight * (10 ** 30 // 22) for weight in WEIGHTS]
        self.assert_same(shares_given(FRONT, great, [("x", 1)], ["y"], [("z", 1)]), [(3, 8), (5, 8)])
        self.assert_same(shares_given(BOW, [10 ** 30, 10 ** 30 - 1, 1, 1], [], ["y"], [("x", 0)]),
                         [(10 ** 30, 2 * 10 ** 30 - 1), (10 ** 30 - 1, 2 * 10 ** 30 - 1)])


class WeightsErrorsTest(KindCase):

    CALLS = ((share_of, ([("x", 1)],)), (shares_after, ([("x", 1)], ["y"])),
             (shares_given, ([("x", 1)], ["y"], [("z", 1)])))

    def test_weights_less_than_1(self):
        for called, rest in self.CALLS:
            for at in range(8):
                for wrong in (0, -1, -10 ** 30):
                    weights = WEIGHTS[:at] + [wrong] + WEIGHTS[at + 1:-1] + [0]
                    self.assert_raised(InvalidWeights, at, called, FRONT, weights, *rest)

    def test_number_of_weights(self):
        for called, rest in self.CALLS:
            for many in (0, 1, 4, 7, 9, 16):
                self.assert_raised(InvalidNumber, many, called, FRONT, [1] * many, *rest)

    def test_weights_ahead_of_number_and_of_all_else(self):
        for called, rest in self.CALLS:
            self.assert_raised(InvalidWeights, 2, called, FRONT, [1, 1, 0], *rest)
            wrong = [[("?", 2), ("?", 2)]] + [["?", "?"]] * (len(rest) - 1)
            self.assert_raised(InvalidWeights, 1, called, FRONT, [1, 0, -1, 1], *wrong)
            self.assert_raised(InvalidNumber, 4, called, FRONT, [1] * 4, *wrong)


class DeedsErrorsTest(KindCase):

    CALLS = ((shares_after, ()), (shares_given, ([("?", 3)],)))

    def test_one_at_a_time(self):
        for called, rest in self.CALLS:
            for wrong in ("q", "", "xy"):
                self.assert_raised(InvalidName, wrong, called, FRONT, WEIGHTS, [("x", 0), (wrong, 0)], ["y"], *rest)
                self.assert_raised(InvalidName, wrong, called, FRONT, WEIGHTS, [("x", 0)], ["y", wrong], *rest)
            self.assert_raised(InvalidName, "x", called, FRONT, WEIGHTS, [("x", 0), ("x", 0)], ["y"], *rest)
            self.assert_raised(InvalidName, "y", called, FRONT, WEIGHTS, [("x", 0)], ["y", "y"], *rest)
            for wrong in (-1, 2, -10 ** 30):
                self.assert_raised(InvalidNumber, wrong, called, FRONT, WEIGHTS, [("z", 1), ("x", wrong)], ["y"], *rest)
            self.assert_raised(InvalidDeed, "x", called, FRONT, WEIGHTS, [("z", 0), ("x", 0)], ["y", "x", "z"], *rest)

    def test_several_at_once(self):
        for called, rest in self.CALLS:
            self.assert_raised(InvalidName, "?", called, BOW, BOW_WEIGHTS, [("x", 2), ("?", 1)], ["!"], *rest)
            self.assert_raised(InvalidNumber, 2, called, BOW, BOW_WEIGHTS, [("x", 2), ("y", 3)], ["!"], *rest)
            self.assert_raised(InvalidName, "!", called, BOW, BOW_WEIGHTS, [("x", 1)], ["x", "!"], *rest)
            self.assert_raised(InvalidDeed, "x", called, BOW, BOW_WEIGHTS, [("x", 1)], ["y", "x"], *rest)

    def test_not_told_comes_last(self):
        self.assert_raised(NotTold, (["y"], ["x", "y"]), shares_after, BOW, BOW_WEIGHTS, [("x", 1)], ["y"])


class GivenErrorsTest(KindCase):

    def assert_given(self, error, value, given):
        self.assert_raised(error, value, shares_given, BESIDE, [1] * 8, [("x", 1)], ["y"], given)

    def test_one_at_a_time(self):
        for wrong in ("q", "", "xy"):
            self.assert_given(InvalidName, wrong, [("z", 0), (wrong, 0), ("?", 0)])
        self.assert_given(InvalidName, "z", [("z", 0), ("z", 0)])
        for wrong in (-1, 2, 10 ** 30):
            self.assert_given(InvalidNumber, wrong, [("z", wrong)])
        self.assert_given(InvalidDeed, "x", [("z", 0), ("x", 1), ("y", 0)])
        self.assert_given(InvalidDeed, "y", [("z", 0), ("y", 1), ("x", 0)])
        self.assert_given(NotTold, (["y"], ["x", "y"]), [("z", 0)])

    def test_several_at_once(self):
        self.assert_given(InvalidName, "?", [("x", 2), ("?", 0)])
        self.assert_given(InvalidName, "x", [("x", 2), ("x", 0)])
        self.assert_given(InvalidNumber, 2, [("x", 0), ("y", 2), ("z", 3)])
        self.assert_given(InvalidDeed, "x", [("x", 0), ("z", 1)])
        self.assert_raised(InvalidDeed, "y", shares_given, given=[("y", 0)], asked=["y"], deeds=[("x", 1)],
                           weights=[1] * 8, diagram=BESIDE)


class ListsTest(KindCase):

    def test_by_position_and_by_name(self):
        self.assert_takes(shares_after, ["diagram", "weights", "deeds", "asked"])
        self.assert_takes(shares_given, ["diagram", "weights", "deeds", "asked", "given"])
        self.assert_same(shares_after(asked=["y"], deeds=[("x", 1)], weights=WEIGHTS, diagram=FRONT),
                         [(11, 24), (13, 24)])
        self.assert_same(shares_given(given=[("z", 1)], asked=["y"], deeds=[("x", 1)], weights=WEIGHTS,
                                      diagram=FRONT), [(3, 8), (5, 8)])

    def test_passed_lists_are_not_changed(self):
        weights, deeds, asked, given = list(WEIGHTS), [("x", 1)], ["y"], [("z", 1)]
        shares_after(FRONT, weights, deeds, asked)
        shares_given(FRONT, weights, deeds, asked, given)
        shares_given(FRONT, weights, [], asked, given)
        shares_given(FRONT, weights, deeds, [], given)
        self.assertEqual((weights, deeds, asked, given), (WEIGHTS, [("x", 1)], ["y"], [("z", 1)]))

    def test_answers_are_new(self):
        for ask in (lambda: shares_after(FRONT, WEIGHTS, [("x", 1)], ["y"]),
                    lambda: shares_given(FRONT, WEIGHTS, [("x", 1)], ["y"], [("z", 1)])):
            kept = repr(ask())
            ask().pop()
            self.assertEqual(repr(ask()), kept)


class KindsTest(KindCase):

    def test_fractions_in_lowest_terms(self):
        world = World(FRONT, [(2, 4)], [[(6, 2), (2, 6)], [(4, 2), (2, 4)], [(6, 2), (2, 2), (4, 4), (2, 6)]])
        for share in shares_after(FRONT, watched(world), [("x", 0)], ["z", "y"]) + done(world, [], ["z", "x"]):
            self.assert_same(share, as_told(Fraction(*share)))
