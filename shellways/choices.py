"""The least and the greatest chances of goals, if chances of failing lie in ranges.

What a situation is worth changes evenly with its chance of failing, so only the ends
of the range count. They are chosen for each situation: from any choices on, better
ones are looked for until there are none.
"""

from shellways.graphs import components, is_round, reached, turned
from shellways.linear import solved
from shellways.ratios import ONE, ZERO, is_less, plus, scaled

LOW = 0
HIGH = 1


class Game:
    """The situations of a program with the range of each that asks, and the goals."""

    def __init__(self, graph, ranges, goals):
        self.graph = graph
        # Tuples (low, high) of tuples (p, q), None for situations that do not ask.
        self.ranges = ranges
        # Whether each situation has come to the goal.
        self.goals = goals
        # What is found for each situation: LOW or HIGH, and the chance.
        self.picks = [LOW] * len(graph)
        self.worth = [ONE if is_goal else ZERO for is_goal in goals]

    def weights_with(self, number, pick):
        """Returns the tuples (situation, weight) that a chance makes possible."""
        top, bottom = self.ranges[number][pick]
        return [(after, weight) for after, weight in zip(self.graph[number], (bottom - top, top)) if weight > 0]

    def whole_with(self, number, pick):
        return self.ranges[number][pick][1]

    def mean(self, number, pick):
        """Returns what a situation is worth by what is behind it."""
        total = ZERO
        for after, weight in self.weights_with(number, pick):
            total = plus(total, scaled(self.worth[after], weight, self.whole_with(number, pick)))
        return total

    def better_pick(self, number, greatest):
        """Returns the pick that makes a situation worth more, or less; None if both do the same."""
        well, badly = [self.worth[after] for after in self.graph[number]]
        low, high = self.ranges[number]
        if well == badly or not is_less(low, high):
            return None
        return HIGH if is_less(well, badly) == greatest else LOW


def play(game, greatest):
    """Finds the greatest chances of the goals, or the least ones, and picks that bring them about."""
    ranks = None if greatest else ranks_of(game)
    later = components(game.graph)
    later.reverse()
    for members in later:
        asking = [number for number in members if game.graph[number]]
        if not greatest:
            # The goal can be kept away from all others for ever.
            asking = [number for number in asking if ranks[number] is not None]
        if is_round(game.graph, members):
            play_in_round(game, asking, greatest)
        else:
            pick_better(game, asking, greatest)
            for number in asking:
                game.worth[number] = game.mean(number, game.picks[number])


def play_in_round(game, asking, greatest):
    """The same for situations that lead to one another, if all that comes behind them is known."""
    changing = True
    while changing:
        value_round(game, asking)
        changing = pick_better(game, asking, greatest)


def pick_better(game, asking, greatest):
    """Picks what is better now, and returns whether something changed."""
    changed = False
    for number in asking:
        pick = game.better_pick(number, greatest)
        if pick is not None and pick != game.picks[number]:
            game.picks[number] = pick
            changed = True
    return changed


def value_round(game, asking):
    """Finds what situations that lead to one another are worth with their picks."""
    for number in asking:
        game.worth[number] = ZERO
    inside = {number: game.weights_with(number, game.picks[number]) for number in asking}
    live = leading_out(game, inside)
    equations = {}
    for number in live:
        whole = game.whole_with(number, game.picks[number])
        weights = {}
        for after, weight in inside[number]:
            if after in live:
                weights[after] = weights.get(after, 0) + weight
        equations[number] = (whole, scaled(game.mean(number, game.picks[number]), whole, 1), weights)
    found = solved(equations)
    for number in live:
        game.worth[number] = found[number]


def leading_out(game, inside):
    """Returns a dict of True from those that can come to something outside that is worth something."""
    graph = [[] for _ in game.graph]
    for number, weights in inside.items():
        graph[number] = [after for after, _ in weights]
    starts = [number for number, worth in enumerate(game.worth) if worth[0] > 0]
    found = reached(turned(graph), starts)
    return {number: True for number in inside if found[number]}


def ranks_of(game):
    """Returns for each situation a rank, 0 at the goals, None if the goal can be kept away from it for ever.

    Whatever the chance, something behind each other situation with a rank has a lesser rank.
    """
    ranks = [0 if is_goal else None for is_goal in game.goals]
    growing = True
    while growing:
        growing = False
        for number in reversed(range(len(game.graph))):
            if ranks[number] is None and game.graph[number]:
                ranks[number] = rank_by(game, number, ranks)
                growing = growing or ranks[number] is not None
    return ranks


def rank_by(game, number, ranks):
    """Returns the rank of a situation by those behind it, None if it has none yet."""
    least = []
    for pick in (LOW, HIGH):
        known = [ranks[after] for after, _ in game.weights_with(number, pick) if ranks[after] is not None]
        if not known:
            return None
        least.append(min(known))
    return 1 + max(least)
