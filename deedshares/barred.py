"""Which things are barred from others by given ones, and the ways that are open."""

from deedshares.checks import check_apart, check_names


def barred(diagram, ones, others, given):
    """Return True if no way from one of ones to one of others is open for given, otherwise False."""
    for names in (ones, others, given):
        check_names(diagram, names)
    check_apart(others, ones)
    check_apart(given, ones + others)
    ways = [find_way(diagram, one, other, given) for one in ones for other in others]
    return all([way is None for way in ways])


def open_way(diagram, one, other, given):
    """Return the first open way from one thing to another one for given, or None."""
    for names in ([one], [other], given):
        check_names(diagram, names)
    check_apart(given, [one, other])
    return find_way(diagram, one, other, given)


def find_way(diagram, one, other, given):
    """Return the first open way from one thing to another one, neither of them given, or None.

    A trail is a way with a list that tells, for each choice of joins that leaves it open so far,
    whether the last join points at the last thing.
    """
    joins = joins_of(diagram)
    passes = passes_of(diagram, given)
    trails = [([one], [False])]
    # All trails of one length, in the order of their places, come ahead of all longer ones.
    while trails:
        for way, _ in trails:
            if way[-1] == other:
                return way
        trails = [longer for trail in trails for longer in longer_trails(diagram.names, joins, passes, trail)]
    return None


def joins_of(diagram):
    """Return, for two neighbours in each sequence, whether each of their joins points at either."""
    joins = {}
    for one, other in diagram.arrows:
        joins.setdefault((one, other), []).append((False, True))
        joins.setdefault((other, one), []).append((True, False))
    for one, other in diagram.pairs:
        joins.setdefault((one, other), []).append((True, True))
        joins.setdefault((other, one), []).append((True, True))
    return joins


def passes_of(diagram, given):
    """Return whether an open way may go through a thing, by the thing and whether both joins point at it."""
    passes = {}
    for thing in diagram.names:
        passes[(thing, False)] = thing not in given
        passes[(thing, True)] = any([thing in diagram.leading_to(name) for name in given])
    return passes


def longer_trails(names, joins, passes, trail):
    """Return the list of the trails that go on by one thing, in the sequence of the names."""
    way, _ = trail
    longer = []
    for thing in names:
        if thing not in way:
            marks = marks_onward(joins, passes, trail, thing)
            if marks:
                longer.append((way + [thing], marks))
    return longer


def marks_onward(joins, passes, trail, thing):
    """Return, for each join by which a trail may go on to a thing, whether it points at the thing."""
    way, marks = trail
    last = way[-1]
    return [ahead for behind, ahead in joins.get((last, thing), [])
            if any([passes[(last, mark and behind)] for mark in marks])]
