"""Checks of lists of names that many functions are passed."""

from deedshares.errors import InvalidDeed, InvalidName


def check_names(diagram, names):
    """Raise InvalidName for the first name that is none of the diagram, or came before."""
    known = diagram.names
    for at, name in enumerate(names):
        if name not in known or name in names[:at]:
            raise InvalidName(name)


def check_apart(names, taken):
    """Raise InvalidDeed for the first name that is taken already."""
    for name in names:
        if name in taken:
            raise InvalidDeed(name)
