"""Points 2, 3, 5 and 8, and deedshares/worlds.py."""

import random
from math import gcd
from unittest import mock

from deedshares.diagrams import Diagram
from deedshares.errors import InvalidDeed, InvalidName, InvalidNumber, InvalidWeights
from deedshares.told import is_told, stuck
from deedshares.worlds import World, done, two_worlds, watched
from tests.cases import KindCase
from tests.plain import plain_done, some_world, sources_of, states
from tests.words import all_diagrams, diagrams_within_bounds, groups_among, some_parts, subsets, with_values

BOW = Diagram(["x", "y"], [("x", "y")], [("x", "y")])
FRONT = Diagram(["x", "z", "y"], [("x", "z"), ("z", "y")], [("x", "y")])
WITHIN = Diagram(["w", "x", "y"], [("x", "y")], [("w", "x"), ("x", "y")])
COINS = [(1, 1)]
TABLES = [[(3, 1), (1, 3)], [(2, 1), (1, 2)], [(3, 1), (1, 1), (1, 1), (1, 3)]]


def front_world():
    return World(FRONT, [(1, 1)], [list(table) for table in TABLES])


def lone(zero, one):
    """A world of one thing."""
    return World(Diagram(["q"], [], []), [], [[(zero, one)]])


class ExampleTest(KindCase):

    def test_of_the_document(self):
        one, other = two_worlds(BOW, ["x"], ["y"])
        told = [watched(front_world()), done(front_world(), [("x", 1)], ["y"]), done(front_world(), [], ["y", "x"]),
                watched(one) == watched(other), done(one, [("x", 0)], ["y"]) == done(other, [("x", 0)], ["y"]),
                two_worlds(FRONT, ["x"], ["y"])]
        self.assert_same(told, [[22, 10, 7, 9, 9, 7, 10, 22], [(11, 24), (13, 24)],
                                [(29, 96), (19, 96), (19, 96), (29, 96)], True, False, None])


class WorldTest(KindCase):

    def test_told_as_passed(self):
        world = front_world()
        self.assert_same([world.coins, world.tables], [[(1, 1)], TABLES])
        self.assertEqual(world.diagram, FRONT)
        self.assert_same([lone(0, 99).coins, lone(0, 99).tables], [[], [[(0, 99)]]])

    def test_by_name(self):
        self.assertEqual(World(tables=TABLES, coins=COINS, diagram=FRONT), front_world())

    def test_told_lists_are_new_each_time(self):
        world = front_world()
        world.coins.append((5, 5))
        world.tables.pop()
        world.tables[0].append((5, 5))
        world.tables[2][0] = (5, 5)
        self.assert_same([world.coins, world.tables], [COINS, TABLES])
        self.assertIsNot(world.coins, world.coins)
        self.assertIsNot(world.tables, world.tables)
        self.assertIsNot(world.tables[1], world.tables[1])

    def test_passed_lists_are_neither_changed_nor_kept(self):
        coins, tables = list(COINS), [list(table) for table in TABLES]
        world = World(FRONT, coins, tables)
        self.assertEqual((coins, tables), (COINS, TABLES))
        coins[0] = (7, 1)
        tables[0][0] = (7, 1)
        tables[1].append((7, 1))
        tables.pop()
        self.assertEqual(world, front_world())
        self.assert_same(watched(world), [22, 10, 7, 9, 9, 7, 10, 22])

    def test_one_table_passed_twice(self):
        table = [(1, 2)]
        world = World(Diagram(["a", "b"], [], []), [], [table, table])
        self.assert_same(world.tables, [[(1, 2)], [(1, 2)]])
        self.assertIsNot(world.tables[0], world.tables[1])

    def test_interface(self):
        self.assertEqual(World.__module__, "deedshares.worlds")
        self.assert_takes(World.__init__, ["self", "diagram", "coins", "tables"])
        self.assertIn("__eq__", vars(World))
        for name in ("diagram", "coins", "tables"):
            self.assertIsInstance(vars(World)[name], property)
            self.assertRaises(AttributeError, setattr, front_world(), name, [])

    def test_weights_at_the_bounds(self):
        for zero, one in ((0, 1), (1, 0), (0, 99), (99, 99), (1, 1)):
            self.assert_same(lone(zero, one).tables, [[(zero, one)]])
        self.assert_same(World(BOW, [(1, 99)], [[(1, 1)] * 2, [(0, 1)] * 4]).coins, [(1, 99)])

    def test_as_many_tuples_as_there_are_states(self):
        full = Diagram(list("abcdef"), [("a", "f"), ("b", "f"), ("c", "f"), ("d", "f"), ("e", "f")],
                       [("a", "f"), ("f", "b"), ("c", "d")])
        many = [2, 2, 2, 2, 1, 128]
        tables = [[(1, 1)] * number for number in many]
        self.assert_same([len(table) for table in World(full, [(1, 1)] * 3, tables).tables], many)
        self.assert_same(set(watched(World(full, [(1, 1)] * 3, tables))), {1})


class EqualityTest(KindCase):

    def test_equal_if_all_three_are(self):
        self.assertTrue(front_world() == front_world())
        self.assertFalse(front_world() != front_world())
        alike = Diagram(["x", "z", "y"], [("x", "z"), ("z", "y")], [("x", "y")])
        self.assertTrue(World(alike, COINS, TABLES) == front_world())

    def test_unlike_if_one_is(self):
        turned = Diagram(["x", "z", "y"], [("x", "z"), ("z", "y")], [("y", "x")])
        others = [World(turned, COINS, TABLES), World(FRONT, [(2, 2)], TABLES),
                  World(FRONT, COINS, TABLES[:2] + [[(3, 1), (1, 1), (1, 1), (2, 6)]]),
                  World(FRONT, COINS, [[(1, 3), (3, 1)]] + TABLES[1:])]
        for other in others:
            self.assertFalse(front_world() == other)
            self.assertFalse(other == front_world())
            self.assertTrue(front_world() != other)

    def test_not_equal_to_anything_else(self):
        parts = (FRONT, COINS, TABLES)
        for other in (None, 0, "", FRONT, COINS, TABLES, parts, list(parts), World, object(), mock.ANY):
            self.assertFalse(front_world() == other)
            self.assertTrue(front_world() != other)
        self.assertIs(front_world() == 3, False)


class WorldErrorsTest(KindCase):

    def test_number_of_coins(self):
        self.assert_raised(InvalidNumber, 0, World, FRONT, [], TABLES)
        self.assert_raised(InvalidNumber, 2, World, FRONT, [(1, 1), (1, 1)], TABLES)
        self.assert_raised(InvalidNumber, 1, World, Diagram(["q"], [], []), [(1, 1)], [[(1, 1)]])

    def test_number_of_tables(self):
        for many in (0, 1, 2, 4, 9):
            self.assert_raised(InvalidNumber, many, World, FRONT, COINS, (TABLES * 3)[:many])

    def test_number_of_tuples(self):
        for at in range(3):
            for many in (0, 1, 3, 5, 8):
                tables = TABLES[:at] + [(TABLES[at] * 8)[:many]] + TABLES[at + 1:]
                self.assert_raised(InvalidNumber, many, World, FRONT, COINS, tables)
        self.assert_raised(InvalidNumber, 3, World, FRONT, COINS, [TABLES[0], TABLES[2][:3], TABLES[2][:1]])

    def test_weights_of_coins(self):
        for wrong in ((0, 1), (1, 0), (-1, 5), (5, -1), (0, 0), (-99, -99), (-10 ** 30, 10 ** 30)):
            self.assert_raised(InvalidWeights, 0, World, FRONT, [wrong], TABLES)
            self.assert_raised(InvalidWeights, 1, World, WITHIN, [(1, 1), wrong], [[(1, 1)] * 2, [(1, 1)] * 4,
                                                                                  [(1, 1)] * 4])
        self.assert_raised(InvalidWeights, 0, World, WITHIN, [(1, 0), (0, 1)], [[(1, 1)] * 2, [(1, 1)] * 4,
                                                                               [(1, 1)] * 4])

    def test_weights_of_tables(self):
        for wrong in ((0, 0), (-1, 5), (5, -1), (-1, -1), (-1, 0), (0, -1), (-99, 99)):
            for at, name in enumerate(FRONT.names):
                for index in range(len(TABLES[at])):
                    tables = [list(table) for table in TABLES]
                    tables[at][index] = wrong
                    self.assert_raised(InvalidWeights, (name, index), World, FRONT, COINS, tables)
                    tables[2][3] = (0, 0)
                    self.assert_raised(InvalidWeights, (name, index), World, FRONT, COINS, tables)

    def test_several_at_once(self):
        bad = [[(0, 0), (0, 0)], [(-1, 1)], []]
        self.assert_raised(InvalidNumber, 2, World, FRONT, [(0, 0), (1, 1)], bad + bad)
        self.assert_raised(InvalidNumber, 6, World, FRONT, [(0, 0)], bad + bad)
        self.assert_raised(InvalidNumber, 1, World, FRONT, [(0, 0)], bad)
        self.assert_raised(InvalidNumber, 0, World, FRONT, [(0, 0)], [bad[0], bad[0], bad[2]])
        self.assert_raised(InvalidWeights, 0, World, FRONT, [(0, 0)], [bad[0], bad[0], bad[0] * 2])
        self.assert_raised(InvalidWeights, ("x", 0), World, FRONT, COINS, [bad[0], bad[0], bad[0] * 2])
        self.assert_raised(InvalidWeights, ("z", 1), World, FRONT, COINS, [TABLES[0], [(0, 1), (0, 0)], bad[0] * 2])
        self.assert_raised(InvalidWeights, 0, World, tables=TABLES, coins=[(0, 1)], diagram=FRONT)


class WatchedTest(KindCase):

    def test_small_ones(self):
        self.assert_same(watched(lone(6, 9)), [2, 3])
        self.assert_same(watched(lone(7, 7)), [1, 1])
        self.assert_same(watched(World(BOW, [(1, 2)], [[(3, 1), (1, 1)], [(1, 1), (1, 2), (2, 1), (1, 3)]])),
                         [17, 25, 10, 20])

    def test_states_with_the_share_0(self):
        self.assert_raised(InvalidWeights, 0, watched, lone(0, 5))
        self.assert_raised(InvalidWeights, 1, watched, lone(5, 0))
        line = Diagram(["b", "a"], [("a", "b")], [])
        self.assert_raised(InvalidWeights, 1, watched, World(line, [], [[(1, 1), (0, 1)], [(1, 1)]]))
        self.assert_raised(InvalidWeights, 3, watched, World(line, [], [[(1, 1), (1, 0)], [(1, 1)]]))
        self.assert_raised(InvalidWeights, 2, watched, world=World(line, [], [[(1, 0), (1, 0)], [(1, 1)]]))

    def test_weights_of_0_that_leave_no_state_out(self):
        world = World(Diagram(["a", "b"], [], [("a", "b")]), [(1, 1)], [[(1, 0), (0, 1)], [(2, 1), (1, 2)]])
        self.assert_same(watched(world), [2, 1, 1, 2])

    def test_plain_sums(self):
        chance = random.Random(21)
        for diagram in diagrams_within_bounds(chance, 40, 4):
            world = some_world(chance, diagram, 1, chance.choice([2, 99]))
            told = watched(world)
            self.assertEqual(gcd(*told), 1)
            shares = plain_done(world, [], diagram.names)
            self.assertTrue(all(weight * bottom == sum(told) * top for weight, (top, bottom) in zip(told, shares)))

    def test_plain_sums_with_weights_of_0(self):
        chance = random.Random(22)
        for diagram in diagrams_within_bounds(chance, 60, 3):
            world = some_world(chance, diagram, 0, 1)
            shares = plain_done(world, [], diagram.names)
            if (0, 1) in shares:
                self.assert_raised(InvalidWeights, shares.index((0, 1)), watched, world)
            else:
                self.assert_same(done(world, [], diagram.names), shares)
                self.assertEqual(len(watched(world)), len(shares))

    def test_answers_are_new(self):
        world = front_world()
        watched(world).pop()
        done(world, [], ["x"]).pop()
        self.assert_same([watched(world), done(world, [], ["x"])], [[22, 10, 7, 9, 9, 7, 10, 22], [(1, 2), (1, 2)]])


class DoneTest(KindCase):

    def test_set_things_stand(self):
        for value in (0, 1):
            self.assert_same(done(front_world(), [("z", value)], ["x"]), [(1, 2), (1, 2)])
        self.assert_same(done(front_world(), [("z", 0)], ["y"]), [(5, 8), (3, 8)])
        self.assert_same(done(front_world(), [("z", 1), ("x", 0)], ["y"]), [(3, 8), (5, 8)])
        self.assert_same(done(front_world(), [("x", 0), ("z", 1)], ["y"]), [(3, 8), (5, 8)])

    def test_what_cannot_happen_by_itself_may_be_set(self):
        world = World(Diagram(["a", "b"], [("a", "b")], []), [], [[(1, 0)], [(1, 0), (1, 4)]])
        self.assert_same(done(world, [], ["b"]), [(1, 1), (0, 1)])
        self.assert_same(done(world, [("a", 1)], ["b"]), [(1, 5), (4, 5)])
        self.assert_same(done(world, [("b", 1)], ["a"]), [(1, 1), (0, 1)])

    def test_nothing_asked(self):
        for deeds in ([], [("x", 1)], [("y", 0), ("x", 1), ("z", 1)]):
            self.assert_same(done(front_world(), deeds, []), [(1, 1)])

    def test_asked_in_any_sequence(self):
        world = World(Diagram(["a", "b", "c"], [("a", "b"), ("b", "c")], []), [],
                      [[(1, 2)], [(3, 1), (1, 1)], [(1, 4), (4, 1)]])
        self.assert_same(done(world, [], ["a", "b"]), [(1, 4), (1, 12), (1, 3), (1, 3)])
        self.assert_same(done(world, [], ["b", "a"]), [(1, 4), (1, 3), (1, 12), (1, 3)])
        self.assert_same(done(world, [("b", 1)], ["c", "a"]), [(4, 15), (8, 15), (1, 15), (2, 15)])

    def test_plain_sums(self):
        chance = random.Random(23)
        for diagram in diagrams_within_bounds(chance, 120, 4):
            world = some_world(chance, diagram, chance.choice([0, 1]), chance.choice([1, 9, 99]))
            acted, asked = some_parts(chance, diagram, 4, 4)
            deeds = with_values(chance, acted)
            self.assert_same(done(world, deeds, asked), plain_done(world, deeds, asked))

    def test_plain_sums_of_six_things(self):
        chance = random.Random(24)
        for diagram in [found for found in diagrams_within_bounds(chance, 60) if len(found.names) == 6][:4]:
            world = some_world(chance, diagram, 0)
            mixed = chance.sample(diagram.names, 6)
            deeds = with_values(chance, mixed[:1])
            self.assert_same(done(world, deeds, mixed[1:]), plain_done(world, deeds, mixed[1:]))

    def test_six_set_or_asked(self):
        diagram = Diagram(list("abcdef"), [("a", "b")], [("c", "d")])
        world = some_world(random.Random(25), diagram)
        self.assert_same(done(world, [(name, 1) for name in "fedcba"], []), [(1, 1)])
        shares = done(world, [], list("abcdef"))
        whole = sum(watched(world))
        self.assertTrue(all(weight * bottom == whole * top for weight, (top, bottom) in zip(watched(world), shares)))

    def test_passed_lists_are_not_changed(self):
        deeds, asked = [("z", 1), ("x", 0)], ["y"]
        done(front_world(), deeds, asked)
        self.assertEqual((deeds, asked), ([("z", 1), ("x", 0)], ["y"]))

    def test_by_position_and_by_name(self):
        self.assert_takes(watched, ["world"])
        self.assert_takes(done, ["world", "deeds", "asked"])
        self.assert_same(done(asked=["y"], deeds=[("x", 1)], world=front_world()), [(11, 24), (13, 24)])
        self.assert_same(watched(world=front_world()), [22, 10, 7, 9, 9, 7, 10, 22])

    def test_errors(self):
        world = front_world()
        for wrong in ("q", "", "xy", "X"):
            self.assert_raised(InvalidName, wrong, done, world, [("x", 1), (wrong, 0), ("?", 0)], ["y"])
            self.assert_raised(InvalidName, wrong, done, world, [("x", 1)], ["y", wrong, "?"])
        self.assert_raised(InvalidName, "x", done, world, [("z", 1), ("x", 1), ("x", 0)], ["y"])
        self.assert_raised(InvalidName, "y", done, world, [], ["y", "x", "y"])
        for wrong in (-1, 2, 10 ** 30, -10 ** 30):
            self.assert_raised(InvalidNumber, wrong, done, world, [("x", 0), ("z", wrong), ("y", 3)], [])
        self.assert_raised(InvalidDeed, "z", done, world, [("x", 0), ("z", 1)], ["y", "z", "x"])

    def test_several_errors_at_once(self):
        world = front_world()
        self.assert_raised(InvalidName, "?", done, world, [("x", 2), ("?", 1)], ["!"])
        self.assert_raised(InvalidName, "x", done, world, [("x", 2), ("x", 1)], ["!"])
        self.assert_raised(InvalidNumber, 2, done, world, [("x", 2), ("z", 3)], ["x", "!"])
        self.assert_raised(InvalidName, "!", done, world, [("x", 1)], ["x", "!"])
        self.assert_raised(InvalidDeed, "x", done, asked=["x"], deeds=[("x", 1)], world=world)


class TwoWorldsTest(KindCase):

    def assert_as_promised(self, diagram, acted, asked):
        """Point 8: None exactly if told, otherwise one table and unlike shares of the group that is stuck."""
        told = two_worlds(diagram, acted, asked)
        found = stuck(diagram, acted, asked)
        self.assertEqual(told is None, found is None)
        if found is not None:
            one, other = told
            self.assertIs(told.__class__, tuple)
            self.assertEqual(watched(one), watched(other))
            deeds = [(name, 0) for name in diagram.names if name not in found[0]]
            self.assertNotEqual(done(one, deeds, found[0]), done(other, deeds, found[0]))
            for world in told:
                self.assertIs(world.__class__, World)
                self.assertEqual(world.diagram, diagram)
                self.assertEqual(world, World(diagram, world.coins, world.tables))
                self.assertTrue(all(0 <= weight <= 99 for table in world.tables for two in table for weight in two))
        return found

    def test_bow(self):
        one, other = two_worlds(BOW, ["x"], ["y"])
        self.assertEqual(len(one.coins), 1)
        self.assertNotEqual(done(one, [("x", 0)], ["y"]), done(other, [("x", 0)], ["y"]))
        self.assert_as_promised(BOW, ["x"], ["y"])

    def test_told(self):
        for diagram, acted, asked in ((FRONT, ["x"], ["y"]), (BOW, ["y"], ["x"]), (BOW, [], ["x", "y"]),
                                      (BOW, ["x"], []), (BOW, [], []), (WITHIN, ["w"], ["y", "x"])):
            self.assert_same(two_worlds(diagram, acted, asked), None)

    def test_stuck_at_a_set_within_another_one(self):
        self.assertEqual(self.assert_as_promised(WITHIN, ["x"], ["y"]), (["y"], ["x", "y"]))
        deep = Diagram(list("abcde"), [("d", "b"), ("c", "b"), ("a", "c"), ("c", "e")],
                       [("d", "b"), ("c", "e"), ("d", "c"), ("a", "e")])
        group, around = self.assert_as_promised(deep, ["c"], ["b"])
        self.assertLess(len(around), len(groups_among(deep, deep.names)[0]))
        self.assertEqual(group, ["b", "d"])

    def test_groups_of_several_with_arrows_within_them(self):
        diagram = Diagram(["x", "a", "b", "w"], [("x", "a"), ("a", "b"), ("x", "b"), ("w", "x")],
                          [("a", "b"), ("x", "b"), ("x", "a"), ("w", "a")])
        self.assertEqual(self.assert_as_promised(diagram, ["x"], ["b"]), (["a", "b"], ["x", "a", "b", "w"]))

    def test_more_than_one_arrow_to_the_group(self):
        diagram = Diagram(list("vwxyz"), [("v", "w"), ("v", "x"), ("w", "y"), ("x", "y"), ("w", "z"), ("x", "z"),
                                          ("y", "z")], [("v", "w"), ("w", "x"), ("x", "y"), ("y", "z"), ("z", "v")])
        self.assertEqual(self.assert_as_promised(diagram, ["w", "x"], ["z"]), (["y", "z"], list("vwxyz")))

    def test_all_diagrams_of_up_to_three_things(self):
        for names in (["a"], ["b", "a"], ["c", "a", "b"]):
            parts = [(acted, asked) for acted in subsets(names) for asked in subsets(names)
                     if not set(acted) & set(asked)]
            for diagram in all_diagrams(names):
                for acted, asked in parts:
                    self.assert_as_promised(diagram, acted, asked)

    def test_drawn_diagrams_of_up_to_five_things(self):
        chance = random.Random(26)
        found = []
        for diagram in diagrams_within_bounds(chance, 1500, 5):
            found.append((diagram, self.assert_as_promised(diagram, *some_parts(chance, diagram, 3, 3))))
        held = [(diagram, *told) for diagram, told in found if told is not None]
        self.assertGreater(len(held), 50)
        within = [around for diagram, _, around in held if around not in groups_among(diagram, diagram.names)]
        self.assertGreater(len(within), 10)

    def test_six_things(self):
        chance = random.Random(27)
        for diagram in [diagram for diagram in diagrams_within_bounds(chance, 120) if len(diagram.names) == 6]:
            self.assert_as_promised(diagram, *some_parts(chance, diagram, 3, 3))

    def test_by_position_and_by_name(self):
        self.assert_takes(two_worlds, ["diagram", "acted", "asked"])
        self.assertEqual(two_worlds(asked=["y"], acted=["x"], diagram=BOW), two_worlds(BOW, ["x"], ["y"]))

    def test_answers_are_new_and_passed_lists_stay(self):
        acted, asked = ["x"], ["y"]
        told = two_worlds(BOW, acted, asked)
        told[0].tables.pop()
        self.assertEqual((acted, asked), (["x"], ["y"]))
        self.assertEqual(two_worlds(BOW, acted, asked), told)
        self.assertNotEqual(told[0], told[1])

    def test_errors(self):
        self.assert_raised(InvalidName, "?", two_worlds, FRONT, ["x", "?"], ["x", "!"])
        self.assert_raised(InvalidName, "x", two_worlds, FRONT, ["x", "x"], ["x", "!"])
        self.assert_raised(InvalidName, "!", two_worlds, FRONT, ["x"], ["x", "!"])
        self.assert_raised(InvalidName, "y", two_worlds, FRONT, ["x"], ["y", "y", "x"])
        self.assert_raised(InvalidDeed, "z", two_worlds, FRONT, ["x", "z"], ["y", "z", "x"])


class OneTableTest(KindCase):

    def test_shares_that_are_told_are_those_of_each_world_with_one_table(self):
        """Point 8, the first sentence: the two worlds of a stuck deed have one table, and each other deed told alike."""
        chance = random.Random(28)
        count = 0
        for diagram in diagrams_within_bounds(chance, 250, 5):
            told = two_worlds(diagram, *some_parts(chance, diagram, 3, 3))
            for _ in range(4):
                acted, asked = some_parts(chance, diagram, 3, 3)
                if told is not None and is_told(diagram, acted, asked):
                    deeds = with_values(chance, acted)
                    self.assert_same(done(told[0], deeds, asked), done(told[1], deeds, asked))
                    count += 1
        self.assertGreater(count, 40)

    def test_hidden_bits_the_other_way_about(self):
        """A world in which 0 and 1 of the hidden bits change their parts is watched alike and answers alike."""
        chance = random.Random(29)
        for diagram in diagrams_within_bounds(chance, 60, 4):
            world = some_world(chance, diagram)
            turned = turn_hidden_bits(world)
            self.assertEqual(watched(turned), watched(world))
            acted, asked = some_parts(chance, diagram, 3, 3)
            deeds = with_values(chance, acted)
            self.assert_same(done(turned, deeds, asked), done(world, deeds, asked))


def turn_hidden_bits(world):
    diagram = world.diagram
    tables = []
    for name, table in zip(diagram.names, world.tables):
        sources = sources_of(diagram, name)
        rows = {tuple(state): weights for state, weights in zip(states(len(sources)), table)}
        tables.append([rows[tuple(value if isinstance(source, str) else 1 - value
                                  for source, value in zip(sources, state))] for state in states(len(sources))])
    return World(diagram, [(one, zero) for zero, one in world.coins], tables)
