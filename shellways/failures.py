"""What becomes of failures: which are tested, trapped, ignored, and which end a shell."""

from shellways.errors import InvalidPath
from shellways.machines import all_situations
from shellways.plans import CAUSES, all_nodes, node_at, plan_of
from shellways.rows import check_row
from shellways.walks import started_walk, tell

# The words for runs that are carried out checked or not, tested or not.
MODES = {
    (True, False): "checked",
    (False, True): "tested",
    (True, True): "both",
    (False, False): "never",
}


def fates(program, row):
    """Returns what becomes of each told status: None for 0, otherwise a word."""
    plan = plan_of(program)
    check_row(row)
    walk = started_walk(plan)
    found = []
    for status in row:
        if walk.asking is None:
            break
        found.append(None if status == 0 else fate_of(walk))
        tell(walk, status)
    return found


def fate_of(walk):
    """Returns the word for a failure of the run that asks."""
    shell = walk.shells[-1]
    if walk.tested:
        return "tested"
    if shell.traps["fail"] is not None and shell.calls == 0:
        return "trapped"
    return "ended" if shell.options["fail"] else "ignored"


def possible_fates(program):
    """Returns the tuples (path, words) of all runs, with the words that its failures can have."""
    plan = plan_of(program)
    words = {}
    for situation in all_situations(plan, False).found:
        if situation.walk.asking is not None:
            path = situation.walk.asking.path
            words[path] = words.get(path, ()) + (fate_of(situation.walk),)
    runs = [node.path for node in all_nodes(plan) if node.word == "run"]
    return [(path, tuple(sorted(set(words.get(path, ()))))) for path in runs]


def modes(program):
    """Returns the tuples (path, word) of all runs: how they can be carried out by their places."""
    plan = plan_of(program)
    places = places_of(plan)
    found = []
    for node in all_nodes(plan):
        if node.word == "run":
            checked = (node.path, False) in places
            found.append((node.path, MODES[(checked, (node.path, True) in places)]))
    return found


def places_of(plan):
    """Returns the tuples (path, tested) of all trees that can be carried out so, as keys."""
    places = {}
    coming = [(plan.main, False)]
    while coming:
        node, tested = coming.pop()
        if (node.path, tested) in places:
            continue
        places[(node.path, tested)] = True
        if node.word == "call":
            coming.append((plan.bodies[node.tree[1]], tested))
        for place in range(len(node.parts)):
            in_test = place == 0 and node.word in CAUSES
            coming.append((node.part(place), tested or in_test))
    return places


def why_tested(program, path):
    """Returns a tuple (cause, calls) that shows why the run is tested, None if it never is."""
    plan = plan_of(program)
    check_run(plan, path)
    reached = reached_functions(plan)
    nodes = all_nodes(plan)
    words = {node.path: node.word for node in nodes}
    calls = [node for node in nodes if node.word == "call" and node.path[0] in reached]
    # Tuples of calls with the run behind them, those with fewer calls first.
    chains = [(path,)] if path[0] in reached else []
    seen = set()
    at = 0
    while at < len(chains):
        chain = chains[at]
        cause = cause_around(words, chain[0])
        if cause is not None:
            return cause, chain[:-1]
        for call in calls:
            if called_function(plan, call) == chain[0][0] and call.path not in seen:
                seen.add(call.path)
                chains.append((call.path, *chain))
        at += 1
    return None


def check_run(plan, path):
    node = node_at(plan, path)
    if node is None or node.word != "run":
        raise InvalidPath(path)


def reached_functions(plan):
    """Returns the numbers of the functions that can be reached from main, and that of main, as keys."""
    return {key[0][0]: True for key in places_of(plan)}


def called_function(plan, call):
    """Returns the number of the function of a call."""
    return plan.bodies[call.tree[1]].path[0]


def cause_around(words, path):
    """Returns the path of a tree of which the tree at the path stands in the tested part."""
    for length in range(len(path) - 1, 0, -1):
        if path[length] == 0 and words[path[:length]] in CAUSES:
            return path[:length]
    return None


def shows_tested(program, path, paper):
    """Returns whether the paper is a tuple (cause, calls) that shows why the run is tested."""
    plan = plan_of(program)
    check_run(plan, path)
    if not isinstance(paper, tuple) or len(paper) != 2 or not isinstance(paper[1], tuple):
        return False
    cause = node_at(plan, paper[0])
    if cause is None or cause.word not in CAUSES or cause.path[0] not in reached_functions(plan):
        return False
    calls = [node_at(plan, place) for place in paper[1]]
    if not all([node is not None and node.word == "call" for node in calls]):
        return False
    paths = [node.path for node in calls] + [path]
    tested = cause.path + (0,)
    if paths[0][:len(tested)] != tested:
        return False
    return all([called_function(plan, node) == inner[0] for node, inner in zip(calls, paths[1:])])
