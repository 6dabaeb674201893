"""How likely programs come to their outcomes, and how many rows lead there."""

from math import lcm

from shellways.chains import chain_of, chances_of, visits
from shellways.errors import InvalidNumber, Mismatch
from shellways.graphs import reached, turned
from shellways.kinds import is_integer, is_integer_within
from shellways.machines import all_situations
from shellways.named import Named, check_chances, check_together, is_chance
from shellways.plans import plan_of
from shellways.ratios import ONE, ZERO, plus, product_of, reduced, scaled

MOST_WITHIN = 100
MOST_COUNTED = 1000

ENDLESS = ("endless",)
ASKS = ("asks",)


def named_of(plan):
    """Returns the situations of a program with names; raises TooLarge if there are too many."""
    named = Named(all_situations(plan, False))
    check_together(named.graph)
    return named


def chain_with(named, chances):
    """Returns the chain of the situations with names."""
    return chain_of(named.graph, [ZERO if name is None else chances[name] for name in named.asked])


def visits_from_start(chain):
    flow = [ZERO] * len(chain.graph)
    flow[0] = ONE
    return visits(chain, chain.groups, flow, chain.weights)


def outcome_chances(program, chances):
    """Returns a dict from all outcomes that have a chance to their chances."""
    plan = plan_of(program)
    check_chances(plan, chances, is_chance)
    named = named_of(plan)
    chain = chain_with(named, chances)
    many = visits_from_start(chain)
    found = {}
    for number, outcome in enumerate(named.outcomes):
        if outcome is not None:
            found[outcome] = plus(found.get(outcome, ZERO), many[number])
    found[ENDLESS] = endless_chance(chain, many)
    return {outcome: chance for outcome, chance in found.items() if chance[0] > 0}


def endless_chance(chain, many):
    total = ZERO
    for members in chain.groups:
        if chain.is_endless(members):
            for number in members:
                total = plus(total, many[number])
    return total


def mean_asked(program, chances):
    """Returns a dict from each command to the mean number of times that it is asked.

    None if the program asks for ever with a chance above 0.
    """
    plan = plan_of(program)
    check_chances(plan, chances, is_chance)
    named = named_of(plan)
    chain = chain_with(named, chances)
    many = visits_from_start(chain)
    if endless_chance(chain, many)[0] > 0:
        return None
    means = {name: ZERO for name in sorted(plan.check.commands)}
    for number, name in enumerate(named.asked):
        if name is not None:
            means[name] = plus(means[name], many[number])
    return means


def chance_within(program, chances, count):
    """Returns the chance that the program has ended behind at most `count` statuses."""
    plan = plan_of(program)
    check_chances(plan, chances, is_chance)
    if not is_integer_within(count, 0, MOST_WITHIN):
        raise InvalidNumber("count")
    named = named_of(plan)
    chain = chain_with(named, chances)
    ends = [outcome is not None and outcome[0] != "silent" for outcome in named.outcomes]
    # The chances of all states behind so many statuses, times the bottom.
    bottom = 1
    parts = {0: 1}
    ended = 1 if ends[0] else 0
    for _ in range(count):
        scale = 1
        for number in parts:
            scale = lcm(scale, max(1, chain.wholes[number]))
        parts = parts_behind(chain, parts, scale)
        bottom *= scale
        ended *= scale
        for number, part in parts.items():
            if ends[number]:
                ended += part
    return reduced(ended, bottom)


def parts_behind(chain, parts, scale):
    later = {}
    for number, part in parts.items():
        for after, weight in chain.weights[number]:
            more = part * weight * (scale // chain.wholes[number])
            later[after] = later.get(after, 0) + more
    return later


def rows_counted(program, count):
    """Returns a dict from outcomes, and ("asks",), to the number of rows of this length that lead there."""
    plan = plan_of(program)
    if not is_integer_within(count, 0, MOST_COUNTED):
        raise InvalidNumber("count")
    named = named_of(plan)
    rows = {0: 1}
    for _ in range(count):
        later = {}
        for number, many in rows.items():
            for after in named.graph[number]:
                later[after] = later.get(after, 0) + many
        rows = later
    found = {}
    for number, many in rows.items():
        outcome = ASKS if named.outcomes[number] is None else named.outcomes[number]
        found[outcome] = found.get(outcome, 0) + many
    return found


def failed_before(program, chances, outcome):
    """Returns a dict from each command to the chance that it failed, given that the program comes to the outcome."""
    plan = plan_of(program)
    check_chances(plan, chances, is_chance)
    named = named_of(plan)
    chain = chain_with(named, chances)
    if not is_outcome(outcome):
        raise Mismatch("outcome")
    worth = chances_of(chain, [number for number, other in enumerate(named.outcomes) if other == outcome])
    if worth[0][0] == 0:
        raise Mismatch("outcome")
    many = visits_from_start(chain)
    found = {}
    for name in sorted(plan.check.commands):
        failed = chance_of_failed(named, chain, name, chances[name], many, worth)
        found[name] = reduced(failed[0] * worth[0][1], failed[1] * worth[0][0])
    return found


def is_outcome(value):
    """Returns whether the value is a tuple of texts and numbers, as outcomes are."""
    if not isinstance(value, tuple):
        return False
    return all([isinstance(part, str) or is_integer(part) for part in value])


def chance_of_failed(named, chain, name, chance, many, worth):
    """Returns the chance that the command fails at least once and the goals are come to.

    `many` tells how often states are come to, `worth` their chances to come to the
    goals. Only the first failure counts, so how often states are come to before it.
    """
    top, bottom = chance
    if top == 0:
        return ZERO
    sources = [number for number, asked in enumerate(named.asked) if asked == name]
    weights = list(chain.weights)
    for number in sources:
        weights[number] = [(named.graph[number][0], bottom - top)] if top < bottom else []
    many = visits_before(chain, sources, [named.graph[number][1] for number in sources], many, weights)
    total = ZERO
    for number in sources:
        more = scaled(worth[named.graph[number][1]], top, bottom)
        total = plus(total, product_of(many[number], more))
    return total


def visits_before(chain, sources, behind, many, weights):
    """Returns how often the sources are come to before they fail first.

    `behind` are the states behind their failures, and `weights` those without these
    failures. Only what lies on ways from there to the sources is not as in `many`.
    """
    later = reached(chain.graph, behind)
    sooner = reached(turned(chain.graph), sources)
    between = [one and other for one, other in zip(later, sooner)]
    if not any(between):
        return many
    flow = [ZERO if inside else often for inside, often in zip(between, many)]
    if between[0]:
        flow[0] = ONE
    for number, inside in enumerate(between):
        for after, weight in weights[number]:
            if not inside and between[after]:
                flow[after] = plus(flow[after], scaled(many[number], weight, chain.wholes[number]))
    return visits(chain, [members for members in chain.groups if between[members[0]]], flow, weights)
