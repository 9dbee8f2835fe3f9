"""Diagrams: things in a sequence, arrows between them, and pairs with a hidden common cause."""

from deedshares.errors import InvalidArrow, InvalidName, InvalidNumber, InvalidPair

MOST_THINGS = 6


class Diagram:
    """A diagram of things; it never changes."""

    def __init__(self, names, arrows, pairs):
        check_things(names)
        check_arrows(names, arrows)
        check_pairs(names, pairs)
        self._names = list(names)
        self._arrows = list(arrows)
        self._pairs = list(pairs)

    @property
    def names(self):
        """The names of the things, as they were passed."""
        return list(self._names)

    @property
    def arrows(self):
        """The arrows, as they were passed."""
        return list(self._arrows)

    @property
    def pairs(self):
        """The hidden pairs, as they were passed."""
        return list(self._pairs)

    def __eq__(self, other):
        return (isinstance(other, Diagram) and self._names == other._names
                and self._arrows == other._arrows and self._pairs == other._pairs)

    def sources(self, name):
        """Return the list of the things with an arrow to a thing."""
        check_known(self._names, name)
        return [thing for thing in self._names if (thing, name) in self._arrows]

    def leading_to(self, name):
        """Return the list of the things that lead to a thing; it is one of them itself."""
        check_known(self._names, name)
        return things_leading(self._names, self._arrows, name)


def check_known(names, name):
    """Raise InvalidName if a name is none of some names."""
    if name not in names:
        raise InvalidName(name)


def check_things(names):
    """Raise an error if a diagram cannot have these names."""
    for at, name in enumerate(names):
        if not is_letter(name) or name in names[:at]:
            raise InvalidName(name)
    if not 1 <= len(names) <= MOST_THINGS:
        raise InvalidNumber(len(names))


def check_arrows(names, arrows):
    """Raise InvalidArrow for the first arrow that a diagram of these names cannot have."""
    for at, (one, other) in enumerate(arrows):
        ahead = arrows[:at]
        if not are_two(names, one, other) or (one, other) in ahead:
            raise InvalidArrow((one, other))
        if other in things_leading(names, ahead, one):
            raise InvalidArrow((one, other))


def check_pairs(names, pairs):
    """Raise InvalidPair for the first hidden pair that a diagram of these names cannot have."""
    for at, (one, other) in enumerate(pairs):
        ahead = pairs[:at]
        if not are_two(names, one, other) or (one, other) in ahead or (other, one) in ahead:
            raise InvalidPair((one, other))


def is_letter(name):
    """Return whether a name is one letter from a to z."""
    return len(name) == 1 and "a" <= name <= "z"


def are_two(names, one, other):
    """Return whether these are two unlike names among some names."""
    return one in names and other in names and one != other


def things_leading(names, arrows, name):
    """Return the list of the things, in the sequence of their names, that lead to one by arrows."""
    found = {name: True}
    waiting = [name]
    while waiting:
        thing = waiting.pop()
        for one, other in arrows:
            if other == thing and one not in found:
                found[one] = True
                waiting.append(one)
    return [thing for thing in names if thing in found]
