"""Worlds of a diagram: what is watched in them, what deeds do in them, and two that are watched alike."""

from math import gcd, lcm

from deedshares.checks import check_deeds
from deedshares.errors import InvalidNumber, InvalidWeights
from deedshares.shares import is_in, lowest, states_of, values_in
from deedshares.told import stuck

# The weights of a thing, by the parity to which it leans.
NOT_LEANING = ((1, 1), (1, 1))
SOMEWHAT_LEANING = ((3, 1), (1, 3))
WHOLLY_LEANING = ((1, 0), (0, 1))


class World:
    """A world of a diagram; it never changes."""

    def __init__(self, diagram, coins, tables):
        check_counts(diagram, coins, tables)
        check_coins(coins)
        check_tables(diagram.names, tables)
        self._diagram = diagram
        self._coins = list(coins)
        self._tables = [list(table) for table in tables]

    @property
    def diagram(self):
        """The diagram, as it was passed."""
        return self._diagram

    @property
    def coins(self):
        """The weights of the hidden bits, as they were passed."""
        return list(self._coins)

    @property
    def tables(self):
        """The weights of the things, as they were passed."""
        return [list(table) for table in self._tables]

    def __eq__(self, other):
        return (isinstance(other, World) and self._diagram == other._diagram
                and self._coins == other._coins and self._tables == other._tables)


def check_counts(diagram, coins, tables):
    """Raise InvalidNumber for the first number of weights that is not that of the diagram."""
    if len(coins) != len(diagram.pairs):
        raise InvalidNumber(len(coins))
    if len(tables) != len(diagram.names):
        raise InvalidNumber(len(tables))
    for name, table in zip(diagram.names, tables):
        if len(table) != len(states_of(len(places_of_sources(diagram, name)))):
            raise InvalidNumber(len(table))


def check_coins(coins):
    """Raise InvalidWeights for the first coin with a weight less than 1."""
    for at, weights in enumerate(coins):
        if min(weights) < 1:
            raise InvalidWeights(at)


def check_tables(names, tables):
    """Raise InvalidWeights for the first tuple with a negative weight, or without any weight."""
    for name, table in zip(names, tables):
        for at, weights in enumerate(table):
            if min(weights) < 0 or max(weights) == 0:
                raise InvalidWeights((name, at))


def places_of_sources(diagram, name):
    """Return the places of the sources of a thing among all things and, behind these, all hidden bits."""
    names = diagram.names
    hidden = [len(names) + at for at, pair in enumerate(diagram.pairs) if name in pair]
    return [names.index(source) for source in diagram.sources(name)] + hidden


def watched(world):
    """Return the table of a world, with weights without a common divisor."""
    weights = weights_after(world, [])
    shared = 0
    for at, weight in enumerate(weights):
        if weight == 0:
            raise InvalidWeights(at)
        shared = gcd(shared, weight)
    return [weight // shared for weight in weights]


def done(world, deeds, asked):
    """Return, for each state of the asked things, its share after a deed."""
    check_deeds(world.diagram, deeds, asked)
    names = world.diagram.names
    weights = weights_after(world, deeds)
    found = {}
    for state, weight in zip(states_of(len(names)), weights):
        values = values_in(names, state, asked)
        found[values] = found.get(values, 0) + weight
    return [lowest(found[tuple(state)], sum(weights)) for state in states_of(len(asked))]


def weights_after(world, deeds):
    """Return, for each state of all things, a whole weight by which it comes about after a deed."""
    names = world.diagram.names
    coins = world.coins
    throws = throws_of(world, [name for name, _ in deeds])
    tosses = states_of(len(coins))
    return [sum([weight_of(coins, throws, state, bits) for bits in tosses]) if is_in(names, state, deeds) else 0
            for state in states_of(len(names))]


def throws_of(world, acted):
    """Return, for each thing that is not set, its place, those of its sources, and its weights by their values."""
    diagram = world.diagram
    throws = []
    for at, (name, table) in enumerate(zip(diagram.names, world.tables)):
        if name not in acted:
            places = places_of_sources(diagram, name)
            states = [tuple(state) for state in states_of(len(places))]
            throws.append((at, places, dict(zip(states, of_one_total(table)))))
    return throws


def of_one_total(table):
    """Return the weights of a table, each tuple times a number such that all have the same sum."""
    total = 1
    for weights in table:
        total = lcm(total, sum(weights))
    return [(zero * (total // (zero + one)), one * (total // (zero + one))) for zero, one in table]


def weight_of(coins, throws, state, bits):
    """Return the weight by which the things come into a state and the hidden bits into theirs."""
    values = state + bits
    weight = 1
    for coin, bit in zip(coins, bits):
        weight = weight * coin[bit]
    for at, places, by_values in throws:
        weight = weight * by_values[tuple([values[place] for place in places])][values[at]]
    return weight


def two_worlds(diagram, acted, asked):
    """Return two worlds watched alike, in which the first stuck group answers a deed otherwise, or None.

    Where that group heeds all of the set at which it is stuck, each hidden bit comes to the sum of the group's
    values twice, straight or through other things: so the sum is watched to lean to what is even. It does not lean
    any more once those other things are set. Where the group heeds itself alone, it leans in either case.
    """
    found = stuck(diagram, acted, asked)
    if found is None:
        return None
    group, around = found
    return leaning_world(diagram, group, around, around), leaning_world(diagram, group, around, group)


def leaning_world(diagram, group, around, heard):
    """Return a world in which the things of around lean to parities, those of group by what is heard alone."""
    coins = [(1, 1) for _ in diagram.pairs]
    tables = []
    for name in diagram.names:
        if name in group:
            tables.append(leaning_table(SOMEWHAT_LEANING, heeded_by(diagram, group, heard, name)))
        else:
            leaning = WHOLLY_LEANING if name in around else NOT_LEANING
            tables.append(leaning_table(leaning, heeded_by(diagram, group, around, name)))
    return World(diagram, coins, tables)


def heeded_by(diagram, group, heard, name):
    """Return, for each source of a thing, whether the parity to which the thing leans counts it.

    Each thing of the group is heeded by none, and each other one by the first alone to which it has an arrow: else
    its parity could come to the sum of the group more than once, or not at all.
    """
    heeded = []
    for source in diagram.sources(name):
        ends = [other for one, other in diagram.arrows if one == source and other in heard]
        heeded.append(source in heard and source not in group and ends[0] == name)
    return heeded + [one in heard and other in heard for one, other in diagram.pairs if name in (one, other)]


def leaning_table(leaning, heeded):
    """Return the weights of a thing that leans to the parity of those of its sources that it heeds."""
    marks = [1 if is_heeded else 0 for is_heeded in heeded]
    return [leaning[sum([value * mark for value, mark in zip(state, marks)]) & 1]
            for state in states_of(len(marks))]
