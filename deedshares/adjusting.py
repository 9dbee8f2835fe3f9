"""Which sets of things are enough to adjust for, and the sums that adjust for them."""

from itertools import combinations

from deedshares.barred import joins_of, passes_of
from deedshares.checks import check_apart, check_asked, check_deeds, check_names, check_weights
from deedshares.cures import holds_one
from deedshares.effects import names_of
from deedshares.shares import is_in, lowest, plus, states_of, times, values_in
from deedshares.told import leading_within


def adjusts(diagram, acted, asked, through):
    """Return True if a set of things, through, may be adjusted for, otherwise False."""
    check_asked(diagram, acted, asked)
    check_names(diagram, through)
    return may_adjust(diagram, acted, asked, through)


def least_adjusting(diagram, acted, asked):
    """Return the list of the sets that may be adjusted for, none within another one."""
    check_asked(diagram, acted, asked)
    things = [name for name in diagram.names if name not in acted + asked]
    found = []
    for size in range(len(things) + 1):
        for some in combinations(things, size):
            if not holds_one(found, some) and may_adjust(diagram, acted, asked, some):
                found.append(list(some))
    return found


def adjusted(diagram, weights, deeds, asked, through):
    """Return, for each state of the asked things, the sum over all states of through that adjusts its share."""
    check_weights(diagram, weights)
    check_deeds(diagram, deeds, asked)
    check_names(diagram, through)
    check_apart(through, names_of(deeds) + asked)
    names = diagram.names
    whole = sum(weights)
    watched_sums = sums_by(names, weights, [], through)
    deed_sums = sums_by(names, weights, deeds, through)
    asked_sums = sums_by(names, weights, deeds, asked + through)
    shares = []
    for state in states_of(len(asked)):
        share = (0, 1)
        for values, weight in watched_sums.items():
            among = lowest(asked_sums[tuple(state) + values], deed_sums[values])
            share = plus(share, times((weight, whole), among))
        shares.append(share)
    return shares


def sums_by(names, weights, event, things):
    """Return the sums of the weights of the states with an event, by the values of some things."""
    sums = {}
    for state, weight in zip(states_of(len(names)), weights):
        if is_in(names, state, event):
            values = values_in(names, state, things)
            sums[values] = sums.get(values, 0) + weight
    return sums


def may_adjust(diagram, acted, asked, through):
    """Return whether a set of things may be adjusted for."""
    if any([name in acted + asked for name in through]):
        return False
    if any([is_behind_road(diagram, acted, asked, name) for name in through]):
        return False
    return not has_open_detour(diagram, acted, asked, through)


def is_behind_road(diagram, acted, asked, name):
    """Return whether a thing of a road, but its first one, leads to a thing without passing through set ones."""
    free = [thing for thing in diagram.names if thing not in acted]
    onward = leading_within(diagram, free, asked)
    # Whatever a later thing of a road leads to, the second one leads to as well.
    seconds = [other for one, other in diagram.arrows if one in acted and other in onward]
    leading = leading_within(diagram, free, [name])
    return any([second in leading for second in seconds])


def has_open_detour(diagram, acted, asked, through):
    """Return whether a way from a set thing to an asked one is open by joins that are not all arrows onward."""
    free = [thing for thing in diagram.names if thing not in acted]
    joins = joins_of(diagram)
    passes = passes_of(diagram, through)

    def goes_on(way, pointed, along):
        """Return whether such a way begins with these things, open by joins of which the last one points so.

        Along means that all joins so far are arrows onward.
        """
        last = way[-1]
        if last in asked and not along:
            return True
        for thing in [end for end in free if end not in way]:
            for behind, ahead in joins.get((last, thing), []):
                # Of all joins, only an arrow onward does not point back at the last thing.
                if passes[(last, pointed and behind)] and goes_on(way + [thing], ahead, along and not behind):
                    return True
        return False

    return any([goes_on([name], False, True) for name in acted])
