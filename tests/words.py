"""Diagrams in great number, and a search through all ways by the very words of the document."""

from itertools import combinations, permutations, product

from deedshares.diagrams import Diagram


def subsets(things):
    return [list(some) for many in range(len(things) + 1) for some in combinations(things, many)]


def leads(diagram, thing, other):
    if thing == other:
        return True
    return any(leads(diagram, end, other) for start, end in diagram.arrows if start == thing)


def joins_between(diagram, one, other):
    """Each join of two things, as the set of the things at which it points."""
    arrows = [{end} for start, end in diagram.arrows if {start, end} == {one, other}]
    return arrows + [{one, other} for pair in diagram.pairs if set(pair) == {one, other}]


def is_open_by(diagram, way, joins, given):
    """Whether a way is open for given things by one choice of joins."""
    for at in range(1, len(way) - 1):
        thing = way[at]
        if thing in joins[at - 1] and thing in joins[at]:
            if not any(leads(diagram, thing, name) for name in given):
                return False
        elif thing in given:
            return False
    return True


def is_open(diagram, way, given):
    steps = [joins_between(diagram, way[at], way[at + 1]) for at in range(len(way) - 1)]
    return any(is_open_by(diagram, way, joins, given) for joins in product(*steps))


def ways_between(diagram, one, other):
    """All lists of unlike things from one to another one, in the order in which they are told."""
    if one == other:
        return [[one]]
    between = [name for name in diagram.names if name not in (one, other)]
    return [[one, *some, other] for many in range(len(between) + 1) for some in permutations(between, many)]


def first_open_way(diagram, one, other, given):
    for way in ways_between(diagram, one, other):
        if is_open(diagram, way, given):
            return way
    return None


def is_barred(diagram, ones, others, given):
    return not any(is_open(diagram, way, given)
                   for one in ones for other in others for way in ways_between(diagram, one, other))


def arrows_without_ring(names):
    """All sets of arrows without a ring, as lists."""
    return [arrows for arrows in subsets(list(permutations(names, 2))) if not has_ring(arrows)]


def has_ring(arrows):
    left = list(arrows)
    while left:
        starts = {one for one, other in left}
        rest = [(one, other) for one, other in left if other in starts]
        if len(rest) == len(left):
            return True
        left = rest
    return False


def all_diagrams(names):
    """Every diagram of some names, for each set of arrows and each set of hidden pairs one."""
    hidden = subsets(list(combinations(names, 2)))
    return [Diagram(names, arrows, pairs) for arrows in arrows_without_ring(names) for pairs in hidden]


def some_diagram(chance, names, share):
    """A diagram by a chance that is seeded: each arrow and each hidden pair with a share."""
    order = chance.sample(names, len(names))
    arrows = [two for two in combinations(order, 2) if chance.random() < share]
    pairs = [tuple(chance.sample(two, 2)) for two in combinations(names, 2) if chance.random() < share / 2]
    return Diagram(names, chance.sample(arrows, len(arrows)), chance.sample(pairs, len(pairs)))
