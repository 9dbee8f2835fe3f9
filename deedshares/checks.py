"""Checks of what several functions are passed: names, values, deeds, weights."""

from deedshares.errors import InvalidDeed, InvalidName, InvalidNumber, InvalidWeights
from deedshares.shares import states_of


def check_names(diagram, names):
    """Raise InvalidName for the first name that is none of the diagram, or came before."""
    known = diagram.names
    for at, name in enumerate(names):
        if name not in known or name in names[:at]:
            raise InvalidName(name)


def check_apart(names, taken):
    """Raise InvalidDeed for the first name that is taken already."""
    for name in names:
        if name in taken:
            raise InvalidDeed(name)


def check_asked(diagram, acted, asked):
    """Raise an error if these things cannot be asked after a deed that sets those."""
    check_names(diagram, acted)
    check_names(diagram, asked)
    check_apart(asked, acted)


def check_event(diagram, event):
    """Raise an error if a list of tuples (name, value) does not tell values of things."""
    check_names(diagram, [name for name, _ in event])
    for _, value in event:
        if value not in (0, 1):
            raise InvalidNumber(value)


def check_deeds(diagram, deeds, asked):
    """Raise an error if these things cannot be asked after this deed."""
    check_event(diagram, deeds)
    check_asked(diagram, [name for name, _ in deeds], asked)


def check_weights(diagram, weights):
    """Raise an error if these cannot be the weights of a table of the diagram."""
    for at, weight in enumerate(weights):
        if weight < 1:
            raise InvalidWeights(at)
    if len(weights) != len(states_of(len(diagram.names))):
        raise InvalidNumber(len(weights))
