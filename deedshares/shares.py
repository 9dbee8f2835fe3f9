"""States of things, and shares: fractions (top, bottom) in lowest terms, the bottom at least 1."""

from math import gcd


def states_of(many):
    """Return the list of all states of so many things, in their order."""
    states = [[]]
    for _ in range(many):
        states = [state + [value] for state in states for value in (0, 1)]
    return states


def values_in(names, state, things):
    """Return the tuple of the values that some things have in a state of all names."""
    return tuple([state[names.index(thing)] for thing in things])


def is_in(names, state, event):
    """Return whether the things of an event have its values in a state of all names."""
    return all([state[names.index(name)] == value for name, value in event])


def lowest(top, bottom):
    """Return the fraction of two integers, the second of them greater than 0."""
    shared = gcd(top, bottom)
    return top // shared, bottom // shared


def plus(one, other):
    """Return the sum of two fractions."""
    return lowest(one[0] * other[1] + other[0] * one[1], one[1] * other[1])


def times(one, other):
    """Return the product of two fractions."""
    return lowest(one[0] * other[0], one[1] * other[1])


def over(one, other):
    """Return a fraction divided by one that is greater than 0."""
    return lowest(one[0] * other[1], one[1] * other[0])
