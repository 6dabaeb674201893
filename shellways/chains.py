"""Chains: states that lead to others by chances, and how often each is come to."""

from shellways.graphs import components, is_round
from shellways.linear import solved
from shellways.ratios import ONE, ZERO, plus, scaled


class Chain:
    """States with the weights of the states that follow.

    The chance that a state leads to another one is the weight, divided by the whole
    of the first state. Nothing follows if the whole is 0.
    """

    def __init__(self, wholes, weights):
        self.wholes = wholes
        # For each state a list of tuples (state, weight) with weights above 0.
        self.weights = weights
        self.graph = [[after for after, _ in row] for row in weights]
        # States that lead to one another, those that lead to others first.
        self.groups = components(self.graph)

    def is_endless(self, members):
        """Returns whether nothing leads out of a group, and something always follows."""
        if not is_round(self.graph, members):
            return False
        return all([after in members for number in members for after in self.graph[number]])


def chain_of(graph, failing):
    """Returns the chain in which each state with a tuple (p, q) in `failing` fails with the chance p / q."""
    wholes = []
    weights = []
    for following, chance in zip(graph, failing):
        wholes.append(chance[1] if following else 0)
        weights.append(weights_of(following, chance) if following else [])
    return Chain(wholes, weights)


def weights_of(following, chance):
    """Returns the tuples (state, weight) behind 0 and behind a failure, those with weights above 0."""
    top, bottom = chance
    return [(after, weight) for after, weight in zip(following, (bottom - top, top)) if weight > 0]


def visits(chain, groups, flow, weights):
    """Returns how often each state is come to on average.

    `flow` tells how often runs start in each state. `groups` are groups of the chain in
    order; what flows out of them is counted, but not followed outside of them. For an
    endless group, the chance to come to it is counted instead. `weights` are those of
    the chain, or a part of them.
    """
    flow = list(flow)
    for members in groups:
        if not any([flow[number][0] for number in members]) or chain.is_endless(members):
            continue
        if is_round(chain.graph, members):
            settle(chain, members, flow, weights)
        for number in members:
            for after, weight in weights[number]:
                if after not in members:
                    more = scaled(flow[number], weight, chain.wholes[number])
                    flow[after] = plus(flow[after], more)
    return flow


def settle(chain, members, flow, weights):
    """Puts into the flow how often the states of a group are come to, also from one another."""
    equations = {}
    for number in members:
        # The unknown is how often the state is come to, divided by its whole.
        equations[number] = (chain.wholes[number], flow[number], {})
    for number in members:
        for after, weight in weights[number]:
            if after in members:
                sources = equations[after][2]
                sources[number] = sources.get(number, 0) + weight
    often = solved(equations)
    for number in members:
        flow[number] = scaled(often[number], chain.wholes[number], 1)


def chances_of(chain, goals):
    """Returns for each state the chance to come to one of these states, which lead nowhere."""
    worth = [ZERO] * len(chain.graph)
    for number in goals:
        worth[number] = ONE
    for members in reversed(chain.groups):
        if is_round(chain.graph, members):
            if not chain.is_endless(members):
                values_inside = solved(equations_of(chain, members, worth))
                for number in members:
                    worth[number] = values_inside[number]
        elif chain.graph[members[0]]:
            worth[members[0]] = mean_behind(chain, members[0], worth, ())
    return worth


def equations_of(chain, members, worth):
    """Returns the equations of the chances of a group, if those of all that follows are known."""
    equations = {}
    for number in members:
        inside = {}
        for after, weight in chain.weights[number]:
            if after in members:
                inside[after] = inside.get(after, 0) + weight
        whole = chain.wholes[number]
        outside = mean_behind(chain, number, worth, members)
        equations[number] = (whole, scaled(outside, whole, 1), inside)
    return equations


def mean_behind(chain, number, worth, aside):
    """Returns the mean worth of what follows, where some states count as 0."""
    total = ZERO
    for after, weight in chain.weights[number]:
        if after not in aside:
            total = plus(total, scaled(worth[after], weight, chain.wholes[number]))
    return total
