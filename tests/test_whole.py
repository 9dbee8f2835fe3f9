"""Points 2 to 8 over the whole program: what one part tells goes together with what the others tell."""

import random
from fractions import Fraction

from deedshares.adjusting import adjusted, adjusts, least_adjusting
from deedshares.barred import barred
from deedshares.cures import cures, is_cure
from deedshares.diagrams import Diagram
from deedshares.effects import share_of, shares_after, shares_given
from deedshares.errors import NotTold
from deedshares.readings import read_diagram
from deedshares.sheets import Sheet, SmallSheet
from deedshares.texts import show_diagram
from deedshares.told import groups, is_told, stuck, told_pairs
from deedshares.worlds import World, done, two_worlds, watched
from tests.cases import KindCase
from tests.plain import some_world
from tests.words import diagrams_within_bounds, some_ends, some_parts, subsets, with_values


def without(diagram, arrows, pairs):
    """The diagram without some arrows and pairs."""
    return Diagram(diagram.names, [arrow for arrow in diagram.arrows if arrow not in arrows],
                   [pair for pair in diagram.pairs if pair not in pairs])


def pointing_at(diagram, acted):
    """The arrows and the pairs that point at what is set."""
    return ([arrow for arrow in diagram.arrows if arrow[1] in acted],
            [pair for pair in diagram.pairs if set(pair) & set(acted)])


def mixed(chance, ones, others):
    """All of two lists, each list in its own sequence."""
    marks = chance.sample([True] * len(ones) + [False] * len(others), len(ones + others))
    left = {True: list(ones), False: list(others)}
    return [left[mark].pop(0) for mark in marks]


class AdjustingTest(KindCase):

    def test_what_may_be_adjusted_for_tells_the_shares_after_the_deed(self):
        chance = random.Random(91)
        many = 0
        for diagram in diagrams_within_bounds(chance, 250):
            acted, asked = some_ends(chance, diagram)
            sets = least_adjusting(diagram, acted, asked)
            world = some_world(chance, diagram, 1, chance.choice([2, 99]))
            weights, deeds = watched(world), with_values(chance, acted)
            for through in sets:
                told = adjusted(diagram, weights, deeds, asked, through)
                self.assert_same(told, done(world, deeds, asked))
                self.assert_same(told, shares_after(diagram, weights, deeds, asked))
                self.assertIs(adjusts(diagram, acted, asked, through[::-1]), True)
                many += 1
            if sets:
                self.assert_same(is_told(diagram, acted, asked), True)
                self.assert_same(cures(diagram, acted, asked), [[]])
        self.assertGreater(many, 60)

    def test_two_worlds_with_one_table_leave_nothing_to_adjust_for(self):
        chance = random.Random(92)
        many = 0
        for diagram in diagrams_within_bounds(chance, 450, 5):
            acted, asked = some_ends(chance, diagram)
            if two_worlds(diagram, acted, asked) is not None:
                self.assert_same(least_adjusting(diagram, acted, asked), [])
                many += 1
        self.assertGreater(many, 30)

    def test_sources_of_what_is_set_without_hidden_pairs(self):
        chance = random.Random(93)
        for diagram in diagrams_within_bounds(chance, 150):
            plain = Diagram(diagram.names, diagram.arrows, [])
            for one, other in told_pairs(plain):
                sources = plain.sources(one)
                if other not in sources:
                    self.assert_same(adjusts(plain, [one], [other], sources), True)

    def test_barred_without_the_arrows_out_of_what_is_set(self):
        # For one thing that is set: where nothing behind it is adjusted for, it is enough that no way is open
        # that begins with a join that points at it.
        chance = random.Random(94)
        many = 0
        for diagram in diagrams_within_bounds(chance, 300):
            acted, asked, through = some_parts(chance, diagram, 1, 3, 4)
            behind = [name for name in through for thing in acted if thing in diagram.leading_to(name)]
            out = [arrow for arrow in diagram.arrows if arrow[0] in acted]
            if not behind and barred(without(diagram, out, []), acted, asked, through):
                self.assert_same(adjusts(diagram, acted, asked, through), True)
                many += 1
        self.assertGreater(many, 100)


class CuresTest(KindCase):

    def test_the_deed_is_told_without_the_pairs_of_a_cure(self):
        chance = random.Random(95)
        for diagram in diagrams_within_bounds(chance, 150):
            acted, asked = some_ends(chance, diagram)
            for indices in cures(diagram, acted, asked):
                cured = without(diagram, [], [diagram.pairs[index] for index in indices])
                self.assertIsNone(stuck(cured, acted, asked))
                self.assertIsNone(two_worlds(cured, acted, asked))
                self.assert_same(cures(cured, acted, asked), [[]])
                for index in indices:
                    self.assert_same(is_cure(diagram, acted, asked, [other for other in indices if other != index]),
                                     False)

    def test_all_is_told_without_hidden_pairs(self):
        chance = random.Random(96)
        for diagram in diagrams_within_bounds(chance, 100):
            acted, asked = some_ends(chance, diagram)
            self.assert_same(is_cure(diagram, acted, asked, list(range(len(diagram.pairs)))), True)
            self.assert_same(is_told(Diagram(diagram.names, diagram.arrows, []), acted, asked), True)


class ToldTest(KindCase):

    def test_told_or_two_worlds(self):
        chance = random.Random(97)
        counts = {True: 0, False: 0}
        for diagram in diagrams_within_bounds(chance, 350, 5):
            acted, asked = some_ends(chance, diagram)
            worlds = two_worlds(diagram, acted, asked)
            self.assert_same(is_told(diagram, acted, asked), worlds is None)
            counts[worlds is None] += 1
            if worlds is not None:
                one, other = worlds
                group, _ = stuck(diagram, acted, asked)
                outside = [(name, 0) for name in diagram.names if name not in group]
                weights = watched(one)
                self.assertEqual(weights, watched(other))
                self.assertNotEqual(done(one, outside, group), done(other, outside, group))
                self.assert_raised(NotTold, stuck(diagram, acted, asked), shares_after, diagram, weights,
                                   [(name, 0) for name in acted], asked)
        self.assertGreater(min(counts.values()), 30)

    def test_no_group_joins_what_is_set_to_what_is_asked(self):
        chance = random.Random(98)
        for diagram in diagrams_within_bounds(chance, 150):
            acted, asked = some_ends(chance, diagram)
            if all(len(group) == 1 for group in groups(diagram)):
                self.assert_same(is_told(diagram, acted, asked), True)


class BarredTest(KindCase):

    def test_barred_things_tell_nothing_of_each_other(self):
        chance = random.Random(101)
        counts = {True: 0, False: 0}
        for diagram in diagrams_within_bounds(chance, 600):
            ones, others, given = (with_values(chance, part) for part in some_parts(chance, diagram, 1, 1, 2))
            if ones and others:
                weights = watched(some_world(chance, diagram))
                share, both, one, other = (Fraction(*share_of(diagram, weights, event)) for event in (
                    given, given + ones + others, given + ones, given + others))
                told = barred(diagram, *([name for name, _ in event] for event in (ones, others, given)))
                self.assert_same(both * share == one * other, told)
                counts[told] += 1
        self.assertGreater(min(counts.values()), 30)

    def test_a_deed_that_is_barred_leaves_the_watched_shares(self):
        chance = random.Random(102)
        many = 0
        for diagram in diagrams_within_bounds(chance, 200):
            acted, asked = some_ends(chance, diagram)
            if barred(without(diagram, *pointing_at(diagram, acted)), acted, asked, []):
                weights, deeds = watched(some_world(chance, diagram)), with_values(chance, acted)
                self.assert_same(shares_after(diagram, weights, deeds, asked),
                                 shares_after(diagram, weights, [], asked))
                many += 1
        self.assertGreater(many, 40)

    def test_a_barred_given_thing_leaves_the_shares_after_the_deed(self):
        chance = random.Random(103)
        many = 0
        for diagram in diagrams_within_bounds(chance, 700):
            acted, asked, given = some_parts(chance, diagram, 2, 2, 1)
            cut = without(diagram, *pointing_at(diagram, acted))
            if given and asked and barred(cut, given, asked, acted) and is_told(diagram, acted, asked + given):
                weights, deeds = watched(some_world(chance, diagram)), with_values(chance, acted)
                self.assert_same(shares_given(diagram, weights, deeds, asked, with_values(chance, given)),
                                 shares_after(diagram, weights, deeds, asked))
                many += 1
        self.assertGreater(many, 20)


class SameDiagramTest(KindCase):

    def test_shown_read_and_drawn_on_a_sheet(self):
        chance = random.Random(104)
        for diagram in diagrams_within_bounds(chance, 150):
            read = read_diagram(show_diagram(diagram))
            self.assertEqual(read, diagram)
            sheet, small = Sheet(read.names), SmallSheet(read.names, len(read.arrows + read.pairs))
            for grown in (sheet, small):
                arrows = [(grown.draw, *arrow) for arrow in read.arrows]
                pairs = [(grown.hide, *pair) for pair in read.pairs]
                for call, one, other in mixed(chance, arrows, pairs):
                    call(one, other)
                self.assertEqual(grown.diagram, diagram)
                self.assert_same(show_diagram(grown.diagram), show_diagram(diagram))
                self.assert_same(len(grown), len(diagram.arrows) + len(diagram.pairs))
            self.assertIs(sheet == small, False)

    def test_answers_of_a_read_diagram_and_of_a_sheet(self):
        chance = random.Random(105)
        for diagram in diagrams_within_bounds(chance, 60):
            acted, asked = some_ends(chance, diagram)
            read = read_diagram(show_diagram(diagram))
            sheet = Sheet(diagram.names)
            for two in diagram.pairs:
                sheet.hide(*two)
            for two in diagram.arrows:
                sheet.draw(*two)
            for ask in (stuck, cures, least_adjusting, two_worlds):
                answer = ask(diagram, acted, asked)
                self.assertEqual([ask(read, acted, asked), ask(sheet.diagram, acted, asked)], [answer] * 2)
            self.assert_same(sheet.tells(acted, asked), is_told(diagram, acted, asked))

    def test_worlds_of_a_read_diagram(self):
        chance = random.Random(106)
        for diagram in diagrams_within_bounds(chance, 30):
            world = some_world(chance, diagram)
            read = World(read_diagram(show_diagram(diagram)), world.coins, world.tables)
            self.assertEqual(read, world)
            self.assertEqual(watched(read), watched(world))

    def test_a_sheet_tells_by_each_rub_what_a_cure_tells(self):
        chance = random.Random(107)
        for diagram in diagrams_within_bounds(chance, 60):
            acted, asked = some_ends(chance, diagram)
            plain = Diagram(diagram.names, [], diagram.pairs)
            for indices in subsets(range(len(diagram.pairs)))[:8]:
                sheet = Sheet(diagram.names)
                for two in plain.pairs:
                    sheet.hide(*two)
                for index in indices:
                    sheet.rub(*plain.pairs[index])
                for two in diagram.arrows:
                    sheet.draw(*two)
                self.assert_same(sheet.tells(acted, asked), is_cure(diagram, acted, asked, indices))
