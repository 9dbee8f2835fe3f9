"""Whether the shares of things after a deed are told by watched shares, and where that is stuck."""

from deedshares.checks import check_asked
from deedshares.diagrams import things_leading


def groups(diagram):
    """Return the list of the groups of all things, ordered by their first ones."""
    return groups_of(diagram, diagram.names)


def steps(diagram, acted, asked):
    """Return, for each group of the things that count, the list of its steps."""
    check_asked(diagram, acted, asked)
    return [steps_to(diagram, group) for group in groups_of(diagram, counting(diagram, acted, asked))]


def is_told(diagram, acted, asked):
    """Return True if the shares of the asked things after a deed are told, otherwise False."""
    return stuck(diagram, acted, asked) is None


def stuck(diagram, acted, asked):
    """Return the tuple (group, set) of the first group that is stuck, and where; None if there is none."""
    check_asked(diagram, acted, asked)
    for group in groups_of(diagram, counting(diagram, acted, asked)):
        last = steps_to(diagram, group)[-1]
        if last != group:
            return group, last
    return None


def told_pairs(diagram):
    """Return the list of the tuples (one, other) such that setting one has told shares of the other one."""
    return [(one, other) for one in diagram.names for other in diagram.names
            if one != other and is_told(diagram, [one], [other])]


def counting(diagram, acted, asked):
    """Return the list of the things that lead to an asked one when what is set is taken out."""
    return leading_within(diagram, [name for name in diagram.names if name not in acted], asked)


def leading_within(diagram, things, ends):
    """Return the list of those of some things that lead to one of the ends by arrows within these things."""
    arrows = [(one, other) for one, other in diagram.arrows if one in things and other in things]
    found = [thing for end in ends for thing in things_leading(things, arrows, end)]
    return [thing for thing in things if thing in found]


def groups_of(diagram, things):
    """Return the list of the groups of some things, ordered by their first ones."""
    found = []
    for thing in things:
        if not any([thing in group for group in found]):
            found.append(group_around(diagram, things, thing))
    return found


def group_around(diagram, things, thing):
    """Return the list of those of some things that are in one group with a thing."""
    pairs = [(one, other) for one, other in diagram.pairs if one in things and other in things]
    # A hidden pair joins both ways about, as two arrows would.
    return things_leading(things, pairs + [(other, one) for one, other in pairs], thing)


def steps_to(diagram, group):
    """Return the list of the steps to a group; the last one is the group, or the set at which it is stuck.

    The steps take turns: a group that hidden pairs join, then the things in it that lead to the group sought.
    """
    told = [group_around(diagram, diagram.names, group[0])]
    while told[-1] != group:
        leading = leading_within(diagram, told[-1], group)
        if leading == told[-1]:
            return told
        told.append(leading)
        joined = group_around(diagram, leading, group[0])
        if joined != leading:
            told.append(joined)
    return told
