"""Worlds that are drawn, and their shares by plain sums over all that can happen."""

from fractions import Fraction
from itertools import product

from deedshares.worlds import World


def states(many):
    return [list(state) for state in product((0, 1), repeat=many)]


def sources_of(diagram, name):
    """The sources of a thing: names, then the numbers of hidden bits."""
    return diagram.sources(name) + [at for at, pair in enumerate(diagram.pairs) if name in pair]


def some_world(chance, diagram, least=1, most=99):
    """A drawn world; where the least weight is 0, no tuple has two of these."""
    coins = [(chance.randint(1, most), chance.randint(1, most)) for _ in diagram.pairs]
    tables = [[some_weights(chance, least, most) for _ in states(len(sources_of(diagram, name)))]
              for name in diagram.names]
    return World(diagram, coins, tables)


def some_weights(chance, least, most):
    weights = (0, 0)
    while weights == (0, 0):
        weights = (chance.randint(least, most), chance.randint(least, most))
    return weights


def share_of_course(world, values, deeds):
    """The share of one course of events: values of all things and of all hidden bits, by name and by number."""
    share = Fraction(1)
    for at, coin in enumerate(world.coins):
        share *= Fraction(coin[values[at]], sum(coin))
    for name, table in zip(world.diagram.names, world.tables):
        sources = sources_of(world.diagram, name)
        weights = table[states(len(sources)).index([values[source] for source in sources])]
        if name in dict(deeds):
            share *= dict(deeds)[name] == values[name]
        else:
            share *= Fraction(weights[values[name]], sum(weights))
    return share


def plain_done(world, deeds, asked):
    names, many = world.diagram.names, len(world.coins)
    sums = {tuple(state): Fraction(0) for state in states(len(asked))}
    for state in states(len(names)):
        for bits in states(many):
            values = {**dict(zip(names, state)), **dict(enumerate(bits))}
            sums[tuple(values[name] for name in asked)] += share_of_course(world, values, deeds)
    return [as_told(share) for share in sums.values()]


def plain_share(names, weights, event):
    """The watched share of an event: a dict of names and values."""
    within = [weight for state, weight in zip(states(len(names)), weights)
              if event.items() <= dict(zip(names, state)).items()]
    return Fraction(sum(within), sum(weights))


def plain_adjusted(diagram, weights, deeds, asked, through):
    names = diagram.names
    shares = []
    for state in states(len(asked)):
        share = Fraction(0)
        for values in states(len(through)):
            held = dict(zip(through, values))
            among = {**held, **dict(deeds)}
            told = plain_share(names, weights, {**among, **dict(zip(asked, state))})
            share += plain_share(names, weights, held) * told / plain_share(names, weights, among)
        shares.append(as_told(share))
    return shares


def as_told(share):
    return share.numerator, share.denominator


def among(shares, asked, given):
    """Shares of the states of asked and then given things, among those with the given values."""
    kept = [Fraction(*share) for state, share in zip(states(len(asked + given)), shares)
            if state[len(asked):] == [value for _, value in given]]
    return [as_told(share / sum(kept)) for share in kept]
