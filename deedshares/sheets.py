"""Sheets on which diagrams grow, and sheets of at most so many arrows and pairs."""

from deedshares.diagrams import Diagram
from deedshares.errors import InvalidArrow, InvalidNumber, NothingToUndo, TooMany
from deedshares.told import is_told


class Sheet:
    """A diagram that grows, at first without arrows and pairs."""

    def __init__(self, names):
        self._diagram = Diagram(names, [], [])
        self._story = []
        # The diagrams ahead of the calls of the story: to go back to one gives each join its old place.
        self._earlier = []
        self._most = None

    @property
    def diagram(self):
        """The diagram, with arrows and pairs in the sequence in which they were drawn."""
        return self._diagram

    def __len__(self):
        return len(self._diagram.arrows + self._diagram.pairs)

    def __eq__(self, other):
        return (isinstance(other, Sheet) and self._diagram.names == other._diagram.names
                and self._story == other._story and self._most == other._most)

    def draw(self, one, other):
        """Put an arrow behind those that are there."""
        self._go_on(("draw", one, other), with_arrow(self._diagram, one, other))

    def hide(self, one, other):
        """Put a hidden pair behind those that are there."""
        self._go_on(("hide", one, other), with_pair(self._diagram, one, other))

    def rub(self, one, other):
        """Take away an arrow or, if it is not there, the hidden pair of both things."""
        self._go_on(("rub", one, other), without_join(self._diagram, one, other))

    def undo(self):
        """Take back the last call that raised no error and has not been taken back yet."""
        if not self._story:
            raise NothingToUndo(0)
        self._story.pop()
        self._diagram = self._earlier.pop()

    def tells(self, acted, asked):
        """Return True if the shares of the asked things after a deed are told, otherwise False."""
        return is_told(self._diagram, acted, asked)

    def story(self):
        """Return the list of the calls that are not taken back."""
        return list(self._story)

    def _go_on(self, call, diagram):
        """Let a diagram take the place of the one that is there, by a call."""
        self._earlier.append(self._diagram)
        self._story.append(call)
        self._diagram = diagram


class SmallSheet(Sheet):
    """A sheet of at most so many arrows and pairs."""

    def __init__(self, names, most):
        super().__init__(names)
        if most < 0:
            raise InvalidNumber(most)
        self._most = most

    def draw(self, one, other):
        """Put an arrow behind those that are there, if there is room."""
        check_room(with_arrow(self._diagram, one, other), self._most)
        super().draw(one, other)

    def hide(self, one, other):
        """Put a hidden pair behind those that are there, if there is room."""
        check_room(with_pair(self._diagram, one, other), self._most)
        super().hide(one, other)


def check_room(diagram, most):
    """Raise TooMany if a diagram has more than so many arrows and pairs."""
    number = len(diagram.arrows + diagram.pairs)
    if number > most:
        raise TooMany(number)


def with_arrow(diagram, one, other):
    """Return a diagram with one more arrow."""
    return Diagram(diagram.names, diagram.arrows + [(one, other)], diagram.pairs)


def with_pair(diagram, one, other):
    """Return a diagram with one more hidden pair."""
    return Diagram(diagram.names, diagram.arrows, diagram.pairs + [(one, other)])


def without_join(diagram, one, other):
    """Return a diagram without an arrow or, if it has none, without the hidden pair of both things."""
    if (one, other) in diagram.arrows:
        arrows = [arrow for arrow in diagram.arrows if arrow != (one, other)]
        return Diagram(diagram.names, arrows, diagram.pairs)
    pairs = [pair for pair in diagram.pairs if pair not in ((one, other), (other, one))]
    if len(pairs) == len(diagram.pairs):
        raise InvalidArrow((one, other))
    return Diagram(diagram.names, diagram.arrows, pairs)
