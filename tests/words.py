"""Diagrams in great number; ways, groups and steps by the very words of the document, searched for without haste."""

from itertools import combinations, permutations, product

from deedshares.diagrams import Diagram


def subsets(things):
    return [list(some) for many in range(len(things) + 1) for some in combinations(things, many)]


def leads(diagram, thing, other):
    if thing == other:
        return True
    return any(leads(diagram, end, other) for start, end in diagram.arrows if start == thing)


def joins_between(diagram, one, other):
    """Each join of two things, as the set of the things at which it points."""
    arrows = [{end} for start, end in diagram.arrows if {start, end} == {one, other}]
    return arrows + [{one, other} for pair in diagram.pairs if set(pair) == {one, other}]


def is_open_by(diagram, way, joins, given):
    """Whether a way is open for given things by one choice of joins."""
    for at in range(1, len(way) - 1):
        thing = way[at]
        if thing in joins[at - 1] and thing in joins[at]:
            if not any(leads(diagram, thing, name) for name in given):
                return False
        elif thing in given:
            return False
    return True


def is_open(diagram, way, given):
    steps = [joins_between(diagram, way[at], way[at + 1]) for at in range(len(way) - 1)]
    return any(is_open_by(diagram, way, joins, given) for joins in product(*steps))


def ways_between(diagram, one, other):
    """All lists of unlike things from one to another one, in the order in which they are told."""
    if one == other:
        return [[one]]
    between = [name for name in diagram.names if name not in (one, other)]
    return [[one, *some, other] for many in range(len(between) + 1) for some in permutations(between, many)]


def first_open_way(diagram, one, other, given):
    for way in ways_between(diagram, one, other):
        if is_open(diagram, way, given):
            return way
    return None


def is_barred(diagram, ones, others, given):
    return not any(is_open(diagram, way, given)
                   for one in ones for other in others for way in ways_between(diagram, one, other))


def groups_among(diagram, things):
    """The groups of some things: whatever a hidden pair among them joins becomes one, until nothing is left to join."""
    found = [[thing] for thing in things]
    for pair in diagram.pairs:
        if set(pair) <= set(things):
            apart = [group for group in found if not set(pair) & set(group)]
            joined = [thing for thing in things if not any(thing in group for group in apart)]
            found = apart + [joined]
    return sorted(found, key=lambda group: things.index(group[0]))


def leads_among(diagram, thing, others, things):
    """Whether a thing leads to one of others by arrows within some things."""
    if thing in others:
        return True
    return any(start == thing and end in things and leads_among(diagram, end, others, things)
               for start, end in diagram.arrows)


def things_that_count(diagram, acted, asked):
    """D of point 6."""
    left = [thing for thing in diagram.names if thing not in acted]
    return [thing for thing in left if leads_among(diagram, thing, asked, left)]


def steps_by_words(diagram, acted, asked):
    return [steps_of_group(diagram, group)
            for group in groups_among(diagram, things_that_count(diagram, acted, asked))]


def steps_of_group(diagram, group):
    around = group_with(diagram, diagram.names, group)
    told = [around]
    while around != group:
        leading = [thing for thing in around if leads_among(diagram, thing, group, around)]
        if leading == around:
            break
        around = group_with(diagram, leading, group)
        told += [leading] if around == leading else [leading, around]
    return told


def stuck_by_words(diagram, acted, asked):
    for group in groups_among(diagram, things_that_count(diagram, acted, asked)):
        last = steps_of_group(diagram, group)[-1]
        if last != group:
            return group, last
    return None


def group_with(diagram, things, group):
    return next(found for found in groups_among(diagram, things) if set(group) <= set(found))


def widest_hold(diagram, group):
    """The greatest set that holds a group, is one group itself, and all of which leads to the group within it."""
    found = group
    for some in subsets([thing for thing in diagram.names if thing not in group]):
        held = [thing for thing in diagram.names if thing in group + some]
        if len(groups_among(diagram, held)) == 1 and all(leads_among(diagram, one, group, held) for one in held):
            found = max(found, held, key=len)
    return found


def proper_ways(diagram, acted, asked):
    """All ways, joined or not, that begin at a set thing, meet no other set one, and end at an asked one."""
    return [way for one in acted for other in asked for way in ways_between(diagram, one, other)
            if not set(way[1:]) & set(acted)]


def roads(diagram, acted, asked):
    return [way for way in proper_ways(diagram, acted, asked)
            if all(two in diagram.arrows for two in zip(way, way[1:]))]


def is_open_aside(diagram, way, given):
    """Whether a way is open by a choice of joins that are not all arrows from each thing to the next one."""
    steps = [joins_between(diagram, one, other) for one, other in zip(way, way[1:])]
    onward = [{thing} for thing in way[1:]]
    return any(is_open_by(diagram, way, joins, given) for joins in product(*steps) if list(joins) != onward)


def adjusts_by_words(diagram, acted, asked, through):
    if set(through) & set(acted + asked):
        return False
    left = [thing for thing in diagram.names if thing not in acted]
    if any(leads_among(diagram, thing, through, left) for road in roads(diagram, acted, asked) for thing in road[1:]):
        return False
    return not any(is_open_aside(diagram, way, through) for way in proper_ways(diagram, acted, asked))


def least_adjusting_by_words(diagram, acted, asked):
    """All sets that may be adjusted for, those that hold another one left out."""
    found = [some for some in subsets(diagram.names) if adjusts_by_words(diagram, acted, asked, some)]
    least = [some for some in found if not any(set(other) < set(some) for other in found)]
    return sorted(least, key=lambda some: (len(some), list(map(diagram.names.index, some))))


def arrows_without_ring(names):
    """All sets of arrows without a ring, as lists."""
    return [arrows for arrows in subsets(list(permutations(names, 2))) if not has_ring(arrows)]


def has_ring(arrows):
    left = list(arrows)
    while left:
        starts = {one for one, other in left}
        rest = [(one, other) for one, other in left if other in starts]
        if len(rest) == len(left):
            return True
        left = rest
    return False


def all_diagrams(names):
    """Every diagram of some names, for each set of arrows and each set of hidden pairs one."""
    hidden = subsets(list(combinations(names, 2)))
    return [Diagram(names, arrows, pairs) for arrows in arrows_without_ring(names) for pairs in hidden]


def some_parts(chance, diagram, *most):
    """Lists of unlike things of a diagram, none in two of them, each of at most so many things."""
    left = chance.sample(diagram.names, len(diagram.names))
    parts = []
    for many in most:
        cut = chance.randint(0, min(many, len(left)))
        parts.append(left[:cut])
        left = left[cut:]
    return parts


def some_ends(chance, diagram):
    """Unlike things that are set and that are asked, at most three of each; one of each where there are enough."""
    left = chance.sample(diagram.names, len(diagram.names))
    cut = min(chance.choice([1, 1, 2, 3]), len(left))
    return left[:cut], left[cut:cut + chance.choice([1, 1, 2, 3])]


def with_values(chance, things):
    return [(thing, chance.randint(0, 1)) for thing in things]


def diagrams_within_bounds(chance, many, most=6):
    """So many drawn diagrams of at most so many things, none with more than six hidden pairs."""
    found = []
    while len(found) < many:
        names = chance.sample("abcdefghijklmnopqrstuvwxyz", chance.randint(1, most))
        diagram = some_diagram(chance, names, chance.choice([0.3, 0.5, 0.7]))
        if len(diagram.pairs) <= 6:
            found.append(diagram)
    return found


def some_diagram(chance, names, share):
    """A diagram by a chance that is seeded: each arrow and each hidden pair with a share."""
    order = chance.sample(names, len(names))
    arrows = [two for two in combinations(order, 2) if chance.random() < share]
    pairs = [tuple(chance.sample(two, 2)) for two in combinations(names, 2) if chance.random() < share / 2]
    return Diagram(names, chance.sample(arrows, len(arrows)), chance.sample(pairs, len(pairs)))
