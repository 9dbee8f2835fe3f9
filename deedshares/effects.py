"""Shares of things, as they are watched and after a deed, reckoned from a table of watched shares."""

from deedshares.barred import barred
from deedshares.checks import check_apart, check_deeds, check_event, check_weights
from deedshares.diagrams import Diagram
from deedshares.errors import NotTold
from deedshares.shares import is_in, lowest, over, plus, states_of, times, values_in
from deedshares.told import steps, stuck


def share_of(diagram, weights, event):
    """Return the watched share of an event, told by a list of tuples (name, value)."""
    check_weights(diagram, weights)
    check_event(diagram, event)
    names = diagram.names
    within = [weight for state, weight in zip(states_of(len(names)), weights) if is_in(names, state, event)]
    return lowest(sum(within), sum(weights))


def shares_after(diagram, weights, deeds, asked):
    """Return, for each state of the asked things, its share after a deed."""
    check_weights(diagram, weights)
    check_deeds(diagram, deeds, asked)
    return reckoned(diagram, weights, deeds, asked)


def shares_given(diagram, weights, deeds, asked, given):
    """Return, for each state of the asked things, its share after a deed among those with the given values."""
    check_weights(diagram, weights)
    check_deeds(diagram, deeds, asked)
    check_event(diagram, given)
    check_apart(names_of(given), names_of(deeds) + asked)
    all_deeds, left = with_moved(diagram, deeds, asked, given)
    things = asked + names_of(left)
    shares = reckoned(diagram, weights, all_deeds, things)
    among = [share for state, share in zip(states_of(len(things)), shares) if is_in(things, state, left)]
    whole = (0, 1)
    for share in among:
        whole = plus(whole, share)
    return [over(share, whole) for share in among]


def names_of(event):
    """Return the list of the names of an event or a deed."""
    return [name for name, _ in event]


def with_moved(diagram, deeds, asked, given):
    """Return the deeds together with what is given and moves to what is set, and the rest of what is given."""
    for at, fact in enumerate(given):
        others = given[:at] + given[at + 1:]
        if moves(diagram, names_of(deeds), asked, fact[0], names_of(others)):
            return with_moved(diagram, deeds + [fact], asked, others)
    return deeds, given


def moves(diagram, acted, asked, name, others):
    """Return whether a given thing moves to what is set."""
    arrows = [(one, other) for one, other in diagram.arrows if other not in acted and one != name]
    pairs = [(one, other) for one, other in diagram.pairs if one not in acted and other not in acted]
    return barred(Diagram(diagram.names, arrows, pairs), [name], asked, acted + others)


def reckoned(diagram, weights, deeds, asked):
    """Return, for each state of the asked things, its share after a deed; raise NotTold if it is not told."""
    acted = names_of(deeds)
    found = stuck(diagram, acted, asked)
    if found is not None:
        raise NotTold(found)
    names = diagram.names
    paths = steps(diagram, acted, asked)
    # No group hangs on what is neither set nor in a group, so one value of that stands for all.
    counting = [thing for path in paths for thing in path[-1]]
    fixed = deeds + [(name, 0) for name in names if name not in acted + counting]
    sums = {}
    for state, share in zip(states_of(len(names)), shares_of_all(diagram, weights, paths)):
        if is_in(names, state, fixed):
            values = values_in(names, state, asked)
            sums[values] = plus(sums.get(values, (0, 1)), share)
    return [sums[tuple(state)] for state in states_of(len(asked))]


def shares_of_all(diagram, weights, paths):
    """Return, for each state of all things, the product of the shares of the groups to which paths lead."""
    whole = sum(weights)
    watched = [lowest(weight, whole) for weight in weights]
    shares = [(1, 1) for _ in weights]
    for path in paths:
        shares = [times(one, other) for one, other in zip(shares, shares_at_end(diagram, watched, path))]
    return shares


def shares_at_end(diagram, watched, path):
    """Return, for each state of all things, the share of the last step of a path when all else is set.

    The steps take turns, as told.steps_to makes them: a group within the step before it, then things of the
    group such that nothing else in it leads to them.
    """
    names = diagram.names
    # Whatever leads to a thing has fewer things that lead to it, so no arrow points back in this sequence.
    things = sorted(names, key=lambda name: len(diagram.leading_to(name)))
    shares = watched
    for at, step in enumerate(path):
        if at & 1:
            shares = summed(names, shares, [thing for thing in things if thing not in step])
        else:
            shares = shares_of_group(names, shares, things, step)
        things = [thing for thing in things if thing in step]
    return shares


def shares_of_group(names, shares, things, group):
    """Return, for each state of all names, the share of a group of things when the other things are set, too."""
    told = [(1, 1) for _ in shares]
    for at, thing in enumerate(things):
        if thing in group:
            upper = summed(names, shares, things[at + 1:])
            lower = summed(names, shares, things[at:])
            told = [times(share, over(one, other)) for share, one, other in zip(told, upper, lower)]
    return told


def summed(names, shares, free):
    """Return, for each state of all names, the sum of the shares of those that differ from it in free things only."""
    kept = [name for name in names if name not in free]
    keys = [values_in(names, state, kept) for state in states_of(len(names))]
    sums = {}
    for key, share in zip(keys, shares):
        sums[key] = plus(sums.get(key, (0, 1)), share)
    return [sums[key] for key in keys]
