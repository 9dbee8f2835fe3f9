"""Points 2, 3, 4 and 6, and deedshares/sheets.py."""

import random

from deedshares.diagrams import Diagram
from deedshares.errors import (InvalidArrow, InvalidDeed, InvalidName, InvalidNumber, InvalidPair, NothingToUndo,
                               TooMany)
from deedshares.sheets import Sheet, SmallSheet
from deedshares.told import is_told
from tests.cases import KindCase


def drawn(sheet, *calls):
    """The sheet after some calls, each a text such as "draw a b" or "undo"."""
    for call in calls:
        word, *names = call.split()
        getattr(sheet, word)(*names)
    return sheet


class SheetCase(KindCase):

    def assert_holds(self, sheet, names, arrows, pairs, story):
        """The sheet has this diagram, this length and this story."""
        diagram = sheet.diagram
        self.assertIs(diagram.__class__, Diagram)
        self.assert_same([diagram.names, diagram.arrows, diagram.pairs], [names, arrows, pairs])
        self.assert_same(len(sheet), len(arrows) + len(pairs))
        self.assert_same(sheet.story(), [tuple(call.split()) for call in story])

    def assert_refused(self, error, value, sheet, word, *passed, **named):
        """The call raises this error, and the sheet stays as it was."""
        diagram, story, number = sheet.diagram, sheet.story(), len(sheet)
        self.assert_raised(error, value, getattr(sheet, word), *passed, **named)
        self.assertEqual(sheet.diagram, diagram)
        self.assert_same(sheet.story(), story)
        self.assert_same(len(sheet), number)


class ExampleTest(KindCase):

    def test_of_the_document(self):
        sheet = Sheet(["x", "y"])
        told = [sheet.draw("x", "y"), sheet.tells(["x"], ["y"]), sheet.hide("y", "x"), sheet.tells(["x"], ["y"]),
                len(sheet), sheet.rub("x", "y"), sheet.diagram.arrows, sheet.undo(),
                sheet.diagram == Diagram(["x", "y"], [("x", "y")], [("y", "x")]), sheet.story(),
                Sheet(["x"]) == SmallSheet(["x"], 5)]
        self.assert_same(told, [None, True, None, False, 2, None, [], None, True,
                                [("draw", "x", "y"), ("hide", "y", "x")], False])


class GrowingTest(SheetCase):

    def test_new_ones(self):
        for names in (["q"], ["y", "x"], list("fedcba")):
            self.assert_holds(Sheet(names), names, [], [], [])
            self.assert_holds(SmallSheet(names, 0), names, [], [], [])

    def test_arrows_and_pairs_in_the_sequence_in_which_they_were_drawn(self):
        calls = ["draw c b", "hide b a", "draw a b", "hide c b", "draw c a"]
        for sheet in (Sheet(list("abc")), SmallSheet(list("abc"), 5)):
            drawn(sheet, *calls)
            self.assert_holds(sheet, list("abc"), [("c", "b"), ("a", "b"), ("c", "a")], [("b", "a"), ("c", "b")], calls)

    def test_all_four_return_none(self):
        for sheet in (Sheet(["x", "y"]), SmallSheet(["x", "y"], 2)):
            told = [sheet.draw("x", "y"), sheet.hide("x", "y"), sheet.rub("x", "y"), sheet.undo()]
            self.assert_same(told, [None] * 4)

    def test_names_that_change_behind_the_call(self):
        for make in (Sheet, lambda names: SmallSheet(names, 3)):
            names = ["x", "y"]
            sheet = make(names)
            names.append("z")
            self.assert_holds(sheet, ["x", "y"], [], [], [])
            self.assertEqual(names, ["x", "y", "z"])

    def test_answers_are_new_throughout(self):
        sheet = drawn(Sheet(["x", "y"]), "draw x y")
        sheet.story().append(("draw", "y", "x"))
        sheet.diagram.names.pop()
        sheet.diagram.arrows.clear()
        self.assert_holds(sheet, ["x", "y"], [("x", "y")], [], ["draw x y"])

    def test_a_diagram_stays_when_the_sheet_goes_on(self):
        sheet = drawn(Sheet(["x", "y"]), "draw x y")
        diagram = sheet.diagram
        drawn(sheet, "hide x y", "rub x y")
        self.assertEqual(diagram, Diagram(["x", "y"], [("x", "y")], []))
        self.assertEqual(sheet.diagram, Diagram(["x", "y"], [], [("x", "y")]))

    def test_sheets_are_apart(self):
        one, other = Sheet(["x", "y"]), Sheet(["x", "y"])
        one.draw("x", "y")
        self.assert_holds(other, ["x", "y"], [], [], [])


class RubTest(SheetCase):

    def test_an_arrow(self):
        sheet = drawn(Sheet(list("abc")), "draw a b", "draw a c", "draw b c", "rub a c")
        self.assert_holds(sheet, list("abc"), [("a", "b"), ("b", "c")], [],
                          ["draw a b", "draw a c", "draw b c", "rub a c"])

    def test_a_pair_either_way_about(self):
        for call in ("rub a c", "rub c a"):
            sheet = drawn(Sheet(list("abc")), "hide b a", "hide a c", call)
            self.assert_holds(sheet, list("abc"), [], [("b", "a")], ["hide b a", "hide a c", call])

    def test_where_both_are_there(self):
        sheet = drawn(Sheet(["x", "y"]), "hide x y", "draw x y", "rub x y")
        self.assert_holds(sheet, ["x", "y"], [], [("x", "y")], ["hide x y", "draw x y", "rub x y"])
        sheet.rub("x", "y")
        self.assert_holds(sheet, ["x", "y"], [], [], ["hide x y", "draw x y", "rub x y", "rub x y"])

    def test_the_pair_where_the_arrow_goes_the_other_way_about(self):
        sheet = drawn(Sheet(["x", "y"]), "hide x y", "draw x y", "rub y x")
        self.assert_holds(sheet, ["x", "y"], [("x", "y")], [], ["hide x y", "draw x y", "rub y x"])
        self.assert_refused(InvalidArrow, ("y", "x"), sheet, "rub", "y", "x")

    def test_drawn_again_it_stands_behind_the_others(self):
        sheet = drawn(Sheet(list("abc")), "draw a b", "draw b c", "rub a b", "draw a b")
        self.assertEqual(sheet.diagram.arrows, [("b", "c"), ("a", "b")])
        drawn(sheet, "rub b c", "draw c b")
        self.assertEqual(sheet.diagram.arrows, [("a", "b"), ("c", "b")])

    def test_errors(self):
        for sheet in (drawn(Sheet(list("abc")), "draw a b", "hide b c"),
                      drawn(SmallSheet(list("abc"), 2), "draw a b", "hide b c")):
            for one, other in (("b", "a"), ("a", "c"), ("c", "a"), ("a", "a"), ("a", "q"), ("q", "a"), ("", "ab")):
                self.assert_refused(InvalidArrow, (one, other), sheet, "rub", one, other)
            self.assert_refused(InvalidArrow, ("b", "a"), sheet, "rub", other="a", one="b")
        self.assert_refused(InvalidArrow, ("q", "q"), Sheet(["q"]), "rub", "q", "q")


class UndoTest(SheetCase):

    def test_each_call(self):
        calls = ["draw a b", "hide a b", "draw b c", "rub a b", "hide c a", "rub c a"]
        for make in (lambda: Sheet(list("abc")), lambda: SmallSheet(list("abc"), 4)):
            sheet = drawn(make(), *calls)
            for many in range(len(calls) - 1, -1, -1):
                sheet.undo()
                self.assertEqual(sheet, drawn(make(), *calls[:many]))
                self.assertEqual(sheet.diagram, drawn(make(), *calls[:many]).diagram)
            self.assert_refused(NothingToUndo, 0, sheet, "undo")

    def test_back_to_its_place(self):
        sheet = drawn(Sheet(list("abcd")), "draw a b", "draw b c", "draw c d", "rub b c", "undo")
        self.assert_holds(sheet, list("abcd"), [("a", "b"), ("b", "c"), ("c", "d")], [],
                          ["draw a b", "draw b c", "draw c d"])
        sheet = drawn(Sheet(list("abcd")), "hide a b", "hide c b", "hide c d", "rub b c", "undo")
        self.assert_holds(sheet, list("abcd"), [], [("a", "b"), ("c", "b"), ("c", "d")],
                          ["hide a b", "hide c b", "hide c d"])

    def test_two_rubs(self):
        sheet = drawn(Sheet(list("abcd")), "draw a b", "draw b c", "draw c d", "rub a b", "rub b c", "undo", "undo")
        self.assertEqual(sheet.diagram.arrows, [("a", "b"), ("b", "c"), ("c", "d")])

    def test_an_arrow_drawn_in_place_of_a_rubbed_one(self):
        sheet = drawn(Sheet(["x", "y"]), "draw x y", "rub x y", "draw y x", "undo", "undo")
        self.assert_holds(sheet, ["x", "y"], [("x", "y")], [], ["draw x y"])

    def test_behind_failed_calls(self):
        sheet = drawn(Sheet(["x", "y"]), "hide x y", "draw x y")
        self.assert_refused(InvalidArrow, ("y", "x"), sheet, "draw", "y", "x")
        self.assert_refused(InvalidPair, ("y", "x"), sheet, "hide", "y", "x")
        self.assert_refused(InvalidArrow, ("x", "q"), sheet, "rub", "x", "q")
        sheet.undo()
        self.assert_holds(sheet, ["x", "y"], [], [("x", "y")], ["hide x y"])
        self.assert_refused(InvalidArrow, ("x", "x"), sheet, "draw", "x", "x")
        sheet.undo()
        self.assert_refused(NothingToUndo, 0, sheet, "undo")
        self.assert_refused(NothingToUndo, 0, sheet, "undo")
        sheet.draw("y", "x")
        self.assert_holds(sheet, ["x", "y"], [("y", "x")], [], ["draw y x"])

    def test_goes_on_behind_an_undo(self):
        sheet = drawn(Sheet(list("abc")), "draw a b", "draw b c", "undo", "draw a c", "undo", "undo", "hide a b")
        self.assert_holds(sheet, list("abc"), [], [("a", "b")], ["hide a b"])

    def test_of_a_new_sheet(self):
        self.assert_refused(NothingToUndo, 0, Sheet(["q"]), "undo")
        self.assert_refused(NothingToUndo, 0, SmallSheet(["q"], 0), "undo")


class TellsTest(SheetCase):

    def test_as_is_told_of_the_diagram(self):
        sheet = Sheet(["x", "z", "y"])
        for call in ("hide x y", "draw x z", "draw z y", "draw x y", "rub x z", "undo", "rub y x", "undo"):
            drawn(sheet, call)
            for acted, asked in ((["x"], ["y"]), ([], ["y"]), (["x", "z"], ["y"]), (["y"], ["z", "x"]), ([], [])):
                self.assert_same(sheet.tells(acted, asked), is_told(sheet.diagram, acted, asked))

    def test_a_deed_that_is_told_and_one_that_is_not(self):
        for sheet in (Sheet(["x", "y"]), SmallSheet(["x", "y"], 2)):
            drawn(sheet, "draw x y", "hide x y")
            self.assert_same([sheet.tells(["x"], ["y"]), sheet.tells(["y"], ["x"])], [False, True])
            self.assert_same(sheet.tells(asked=["y"], acted=["x"]), False)

    def test_errors(self):
        for sheet in (drawn(Sheet(["x", "y"]), "draw x y"), drawn(SmallSheet(["x", "y"], 1), "draw x y")):
            self.assert_refused(InvalidName, "q", sheet, "tells", ["x", "q"], ["?"])
            self.assert_refused(InvalidName, "x", sheet, "tells", ["x", "x"], ["x"])
            self.assert_refused(InvalidName, "?", sheet, "tells", ["x"], ["x", "?"])
            self.assert_refused(InvalidDeed, "x", sheet, "tells", ["x"], ["y", "x"])


class ErrorsTest(SheetCase):

    def test_names(self):
        for make in (Sheet, lambda names: SmallSheet(names, -1)):
            for wrong in ("", "xy", "A", "1", "~"):
                self.assert_raised(InvalidName, wrong, make, ["x", wrong, "x", "?"])
            self.assert_raised(InvalidName, "x", make, list("xyxyzwuvt"))
            self.assert_raised(InvalidNumber, 0, make, [])
            self.assert_raised(InvalidNumber, 7, make, list("abcdefg"))

    def test_draw(self):
        for sheet in (drawn(Sheet(list("abc")), "draw a b", "draw b c", "hide a c"),
                      drawn(SmallSheet(list("abc"), 3), "draw a b", "draw b c", "hide a c")):
            for one, other in (("a", "q"), ("q", "a"), ("", "a"), ("a", "a"), ("a", "b"), ("b", "a"), ("c", "a"),
                               ("ab", "c")):
                self.assert_refused(InvalidArrow, (one, other), sheet, "draw", one, other)
            self.assert_refused(InvalidArrow, ("c", "a"), sheet, "draw", other="a", one="c")

    def test_hide(self):
        for sheet in (drawn(Sheet(list("abc")), "draw a b", "draw b c", "hide a c"),
                      drawn(SmallSheet(list("abc"), 3), "draw a b", "draw b c", "hide a c")):
            for one, other in (("a", "q"), ("q", "a"), ("", "a"), ("a", "a"), ("a", "c"), ("c", "a"), ("ab", "c")):
                self.assert_refused(InvalidPair, (one, other), sheet, "hide", one, other)
            self.assert_refused(InvalidPair, ("c", "a"), sheet, "hide", other="a", one="c")

    def test_a_ring_only_with_what_is_there(self):
        sheet = drawn(Sheet(list("abc")), "draw a b", "draw b c")
        self.assert_refused(InvalidArrow, ("c", "a"), sheet, "draw", "c", "a")
        drawn(sheet, "rub a b", "draw c a")
        self.assert_refused(InvalidArrow, ("a", "b"), sheet, "draw", "a", "b")
        drawn(sheet, "undo", "draw a b")
        self.assertEqual(sheet.diagram.arrows, [("b", "c"), ("a", "b")])

    def test_several_calls_that_fail_one_after_another(self):
        sheet = drawn(SmallSheet(["x", "y"], 2), "draw x y", "hide x y")
        kept = drawn(SmallSheet(["x", "y"], 2), "draw x y", "hide x y")
        for _ in range(3):
            self.assert_refused(InvalidArrow, ("y", "x"), sheet, "draw", "y", "x")
            self.assert_refused(InvalidPair, ("x", "y"), sheet, "hide", "x", "y")
            self.assert_refused(InvalidArrow, ("x", "x"), sheet, "rub", "x", "x")
            self.assert_refused(InvalidDeed, "x", sheet, "tells", ["x"], ["x"])
        self.assertEqual(sheet, kept)


class SmallTest(SheetCase):

    def test_at_its_bound(self):
        sheet = drawn(SmallSheet(list("abc"), 2), "draw a b", "hide b c")
        self.assert_refused(TooMany, 3, sheet, "draw", "a", "c")
        self.assert_refused(TooMany, 3, sheet, "hide", "a", "c")
        self.assert_refused(TooMany, 3, sheet, "hide", other="a", one="b")
        drawn(sheet, "rub c b", "draw b c")
        self.assert_refused(TooMany, 3, sheet, "draw", "a", "c")
        drawn(sheet, "undo", "undo", "undo", "hide a c")
        self.assert_holds(sheet, list("abc"), [("a", "b")], [("a", "c")], ["draw a b", "hide a c"])

    def test_behind_the_other_errors(self):
        sheet = drawn(SmallSheet(list("abc"), 2), "draw a b", "hide b c")
        for one, other in (("a", "b"), ("b", "a"), ("a", "a"), ("a", "q")):
            self.assert_refused(InvalidArrow, (one, other), sheet, "draw", one, other)
        for one, other in (("b", "c"), ("c", "b"), ("a", "a"), ("a", "q")):
            self.assert_refused(InvalidPair, (one, other), sheet, "hide", one, other)

    def test_most_0(self):
        sheet = SmallSheet(["x", "y"], 0)
        self.assert_refused(TooMany, 1, sheet, "draw", "x", "y")
        self.assert_refused(TooMany, 1, sheet, "hide", "x", "y")
        self.assert_refused(InvalidArrow, ("x", "x"), sheet, "draw", "x", "x")
        self.assert_refused(InvalidPair, ("x", "q"), sheet, "hide", "x", "q")
        self.assert_refused(InvalidArrow, ("x", "y"), sheet, "rub", "x", "y")
        self.assert_refused(NothingToUndo, 0, sheet, "undo")

    def test_most_below_0(self):
        for wrong in (-1, -2, -10 ** 30):
            self.assert_raised(InvalidNumber, wrong, SmallSheet, ["q"], wrong)
            self.assert_raised(InvalidNumber, wrong, SmallSheet, most=wrong, names=["q"])
        self.assert_raised(InvalidNumber, 7, SmallSheet, list("abcdefg"), -1)
        self.assert_raised(InvalidName, "?", SmallSheet, ["?"], -1)

    def test_great_bound(self):
        sheet = SmallSheet(list("abcdef"), 10 ** 30)
        for one, other in zip("abcde", "bcdef"):
            sheet.draw(one, other)
            sheet.hide(one, other)
        self.assert_same(len(sheet), 10)

    def test_no_bound_for_a_plain_sheet(self):
        sheet = Sheet(list("abcdef"))
        for at, one in enumerate("abcdef"):
            for other in "abcdef"[at + 1:]:
                drawn(sheet, f"draw {one} {other}", f"hide {other} {one}")
        self.assert_same(len(sheet), 30)


class EqualityTest(SheetCase):

    def assert_unlike(self, one, other):
        self.assert_same([one == other, other == one, one != other], [False, False, True])

    def assert_alike(self, one, other):
        self.assert_same([one == other, other == one, one != other], [True, True, False])

    def test_names_and_stories(self):
        self.assert_alike(Sheet(["x", "y"]), Sheet(["x", "y"]))
        self.assert_unlike(Sheet(["x", "y"]), Sheet(["y", "x"]))
        self.assert_unlike(Sheet(["x", "y"]), Sheet(["x"]))
        one = drawn(Sheet(["x", "y"]), "draw x y")
        self.assert_alike(one, one)
        self.assert_alike(one, drawn(Sheet(["x", "y"]), "draw x y"))
        self.assert_unlike(one, Sheet(["x", "y"]))
        self.assert_unlike(one, drawn(Sheet(["x", "y"]), "hide x y"))
        self.assert_unlike(drawn(Sheet(["x", "y"]), "hide y x"), drawn(Sheet(["x", "y"]), "hide x y"))

    def test_one_diagram_by_unlike_stories(self):
        one = drawn(Sheet(["x", "y"]), "draw x y", "rub x y")
        self.assertEqual(one.diagram, Sheet(["x", "y"]).diagram)
        self.assert_unlike(one, Sheet(["x", "y"]))
        one, other = (drawn(Sheet(["x", "y"]), *calls) for calls in (["draw x y", "hide x y"],
                                                                     ["hide x y", "draw x y"]))
        self.assertEqual(one.diagram, other.diagram)
        self.assert_unlike(one, other)

    def test_what_is_taken_back_does_not_count(self):
        self.assert_alike(drawn(Sheet(["x", "y"]), "draw x y", "undo"), Sheet(["x", "y"]))
        self.assert_alike(drawn(Sheet(["x", "y"]), "hide x y", "undo", "draw x y"),
                          drawn(Sheet(["x", "y"]), "draw x y"))

    def test_bounds(self):
        self.assert_alike(SmallSheet(["x"], 5), SmallSheet(["x"], 5))
        self.assert_unlike(SmallSheet(["x"], 5), SmallSheet(["x"], 6))
        self.assert_unlike(SmallSheet(["x"], 5), SmallSheet(["y"], 5))
        self.assert_unlike(SmallSheet(["x", "y"], 5), drawn(SmallSheet(["x", "y"], 5), "hide x y"))
        for most in (0, 5, 10 ** 30):
            self.assert_unlike(SmallSheet(["x"], most), Sheet(["x"]))

    def test_anything_else(self):
        for sheet in (Sheet(["x"]), SmallSheet(["x"], 0)):
            for other in (sheet.diagram, sheet.story(), ["x"], "x", 0, None, ("x",), Sheet, {}):
                self.assert_unlike(sheet, other)


class StoriesTest(SheetCase):

    def test_drawn_calls_by_a_plain_book(self):
        chance = random.Random(71)
        refused = {}
        for _ in range(150):
            names = chance.sample("abcdef", chance.randint(1, 4))
            most = chance.choice([None, 2, 4])
            sheet = Sheet(names) if most is None else SmallSheet(names, most)
            story = []
            for _ in range(60):
                call = (chance.choice(["draw", "hide", "rub", "undo"]), *chance.choices(names + ["q"], k=2))
                error = self.assert_goes_by_the_book(sheet, story, call, most)
                refused[error] = refused.get(error, 0) + 1
        self.assertGreater(min(refused.values()), 50)
        self.assertEqual(set(refused), {None, InvalidArrow, InvalidPair, NothingToUndo, TooMany})

    def assert_goes_by_the_book(self, sheet, story, call, most):
        """The sheet does, or refuses, what the story so far lets it; the story goes on. Returns the error."""
        word, *ends = call
        if word == "undo":
            ends, found = [], (NothingToUndo, 0) if not story else None
        else:
            found = what_is_wrong(sheet.diagram.names, story, call, most)
        if found is not None:
            self.assert_refused(*found, sheet, word, *ends)
            return found[0]
        self.assertIsNone(getattr(sheet, word)(*ends))
        if word == "undo":
            story.pop()
        else:
            story.append(call)
        self.assert_holds(sheet, sheet.diagram.names, *joins_by(story), [" ".join(line) for line in story])
        return None


def joins_by(story):
    """The arrows and the pairs that a story leaves."""
    arrows, pairs = [], []
    for word, one, other in story:
        if word == "draw":
            arrows.append((one, other))
        elif word == "hide":
            pairs.append((one, other))
        elif (one, other) in arrows:
            arrows.remove((one, other))
        else:
            pairs.remove(next(pair for pair in pairs if set(pair) == {one, other}))
    return arrows, pairs


def what_is_wrong(names, story, call, most):
    """The error, with its value, of a call that would come next; None if there is none."""
    arrows, pairs = joins_by(story)
    word, *two = call
    two = tuple(two)
    known = set(two) <= set(names) and two[0] != two[1]
    hidden = any(set(pair) == set(two) for pair in pairs)
    if word == "rub":
        return None if two in arrows or hidden else (InvalidArrow, two)
    if word == "draw" and (not known or two in arrows or leads_by(arrows, two[1], two[0])):
        return InvalidArrow, two
    if word == "hide" and (not known or hidden):
        return InvalidPair, two
    number = len(arrows) + len(pairs) + 1
    return (TooMany, number) if most is not None and number > most else None


def leads_by(arrows, one, other):
    return one == other or any(leads_by(arrows, end, other) for start, end in arrows if start == one)


class FormTest(SheetCase):

    def test_a_small_sheet_is_a_sheet(self):
        self.assertEqual(SmallSheet.__bases__, (Sheet,))
        self.assertIsInstance(SmallSheet(["q"], 1), Sheet)

    def test_by_position_and_by_name(self):
        self.assert_takes(Sheet.__init__, ["self", "names"])
        self.assert_takes(SmallSheet.__init__, ["self", "names", "most"])
        for made in (Sheet, SmallSheet):
            for word in ("draw", "hide", "rub"):
                self.assert_takes(getattr(made, word), ["self", "one", "other"])
            for word in ("undo", "story"):
                self.assert_takes(getattr(made, word), ["self"])
            self.assert_takes(made.tells, ["self", "acted", "asked"])
        sheet = SmallSheet(most=3, names=["x", "y"])
        sheet.draw(other="y", one="x")
        sheet.hide(other="x", one="y")
        sheet.rub(other="y", one="x")
        self.assert_holds(sheet, ["x", "y"], [], [("y", "x")], ["draw x y", "hide y x", "rub x y"])
        self.assertEqual(Sheet(names=["x"]), Sheet(["x"]))
