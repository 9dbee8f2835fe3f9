"""Which hidden pairs must be ruled out at least, for shares after a deed to be told."""

from itertools import combinations

from deedshares.checks import check_asked
from deedshares.diagrams import Diagram
from deedshares.errors import InvalidNumber
from deedshares.told import is_told


def cures(diagram, acted, asked):
    """Return the list of the lists of indices of hidden pairs without which the shares are told, none in another."""
    check_asked(diagram, acted, asked)
    many = len(diagram.pairs)
    found = []
    for size in range(many + 1):
        for indices in combinations(range(many), size):
            if not holds_one(found, indices) and is_told_without(diagram, acted, asked, indices):
                found.append(list(indices))
    return found


def is_cure(diagram, acted, asked, indices):
    """Return True if the shares are told without the hidden pairs with some indices, otherwise False."""
    check_asked(diagram, acted, asked)
    for index in indices:
        if not 0 <= index < len(diagram.pairs):
            raise InvalidNumber(index)
    return is_told_without(diagram, acted, asked, indices)


def holds_one(lists, indices):
    """Return whether one of some lists stands whole within these indices."""
    return any([all([index in indices for index in within]) for within in lists])


def is_told_without(diagram, acted, asked, indices):
    """Return whether the shares are told without the hidden pairs with these indices."""
    pairs = [pair for at, pair in enumerate(diagram.pairs) if at not in indices]
    return is_told(Diagram(diagram.names, diagram.arrows, pairs), acted, asked)
