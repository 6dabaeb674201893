"""Chances of a goal if the chances of failing lie in ranges, and papers that show them."""

from shellways.choices import HIGH, Game, play, ranks_of
from shellways.errors import InvalidName, InvalidNumber
from shellways.graphs import graph_of
from shellways.kinds import is_integer, is_list_of
from shellways.machines import all_situations
from shellways.named import check_chances, check_together, is_chance
from shellways.plans import plan_of
from shellways.ratios import ONE, ZERO, is_fraction, is_less, is_part, plus, scaled

GOALS = ("well", "badly", "ends")


def least_chance(program, ranges, goal):
    """Returns the least chance of the goal that chances of failing within the ranges can bring about."""
    return played(program, ranges, goal, False).worth[0]


def greatest_chance(program, ranges, goal):
    """Returns the greatest chance of the goal that chances of failing within the ranges can bring about."""
    return played(program, ranges, goal, True).worth[0]


def played(program, ranges, goal, greatest):
    plan = checked_plan(program, ranges, goal)
    game = game_of(plan, ranges, goal)
    play(game, greatest)
    return game


def checked_plan(program, ranges, goal):
    """Returns the plan of the program if all arguments are as described."""
    plan = plan_of(program)
    check_chances(plan, ranges, is_range)
    if not isinstance(goal, str) or goal not in GOALS:
        raise InvalidName(goal)
    return plan


def is_range(value):
    if not isinstance(value, tuple) or len(value) != 2:
        return False
    return is_chance(value[0]) and is_chance(value[1]) and not is_less(value[1], value[0])


def game_of(plan, ranges, goal):
    every = all_situations(plan, False)
    graph = graph_of(every)
    check_together(graph)
    goals = []
    given = []
    for situation in every.found:
        walk = situation.walk
        goals.append(is_goal_status(walk.status, goal))
        given.append(None if walk.asking is None else ranges[walk.asking.tree[1]])
    return Game(graph, given, goals)


def is_goal_status(status, goal):
    """Returns whether a program with this end status, or None, has come to the goal."""
    if status is None:
        return False
    return goal == "ends" or (status == 0) == (goal == "well")


def worst_choices(program, ranges, goal):
    """Returns "low" or "high" for each situation that asks, with which the goal has its greatest chance."""
    game = played(program, ranges, goal, True)
    words = []
    for number, following in enumerate(game.graph):
        if following:
            words.append("high" if game.picks[number] == HIGH else "low")
        else:
            words.append(None)
    return words


# Papers.


def upper_paper(program, ranges, goal):
    """Returns a paper that shows that the chance of the goal is at most the greatest one."""
    return list(played(program, ranges, goal, True).worth)


def shows_at_most(program, ranges, goal, bound, paper):
    """Returns whether the paper shows that the chance of the goal is at most the bound."""
    game = game_for_bound(program, ranges, goal, bound)
    if not is_list_of(paper, len(game.graph), is_worth):
        return False
    for number, worth in enumerate(paper):
        if game.goals[number] and is_less(worth, ONE):
            return False
        if any([is_less(worth, mean) for mean in means_behind(game, number, paper)]):
            return False
    return not is_less(bound, paper[0])


def game_for_bound(program, ranges, goal, bound):
    """Returns the game if all arguments ahead of a paper are as described."""
    plan = checked_plan(program, ranges, goal)
    if not is_part(bound):
        raise InvalidNumber("bound")
    return game_of(plan, ranges, goal)


def is_worth(value):
    """Returns whether the value is a fraction that is not below 0."""
    return is_fraction(value) and value[0] >= 0


def means_behind(game, number, worth):
    """Returns the mean worth behind a situation for both ends of its range; none if it does not ask."""
    if not game.graph[number]:
        return []
    means = []
    for pick, chance in enumerate(game.ranges[number]):
        mean = ZERO
        for after, weight in game.weights_with(number, pick):
            mean = plus(mean, scaled(worth[after], weight, chance[1]))
        means.append(mean)
    return means


def lower_paper(program, ranges, goal):
    """Returns a paper that shows that the chance of the goal is at least the least one."""
    game = played(program, ranges, goal, False)
    ranks = [0 if rank is None else rank for rank in ranks_of(game)]
    return list(zip(game.worth, ranks))


def shows_at_least(program, ranges, goal, bound, paper):
    """Returns whether the paper shows that the chance of the goal is at least the bound."""
    game = game_for_bound(program, ranges, goal, bound)
    if not is_list_of(paper, len(game.graph), is_line):
        return False
    worth = [line[0] for line in paper]
    ranks = [line[1] for line in paper]
    for number in range(len(paper)):
        if not is_kept(game, number, worth, ranks):
            return False
    return not is_less(worth[0], bound)


def is_line(value):
    """Returns whether the value is a tuple of a fraction and a rank."""
    if not isinstance(value, tuple) or len(value) != 2:
        return False
    return is_fraction(value[0]) and is_integer(value[1]) and value[1] >= 0


def is_kept(game, number, worth, ranks):
    """Returns whether a lower paper is right at one situation."""
    if not game.graph[number]:
        return not is_less(ONE if game.goals[number] else ZERO, worth[number])
    if any([is_less(mean, worth[number]) for mean in means_behind(game, number, worth)]):
        return False
    if worth[number][0] <= 0:
        return True
    for pick in range(len(game.ranges[number])):
        if all([ranks[after] >= ranks[number] for after, _ in game.weights_with(number, pick)]):
            return False
    return True
