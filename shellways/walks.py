"""How a program is carried out, from one told status to the next.

A tree begins by its action in BEGINNINGS. Behind the end of a tree, the tree
around it goes on by its action in RETURNS. What is open stands in the frames
of the walk and not in calls of Python, for it may be a thousand deep.
"""

from shellways.leaving import (
    begin_trap_body, leave_all, leave_to_call, leave_to_loop, note_end, pop_frame, return_to_trap, set_checked,
)
from shellways.states import walk_of

MOST_BEGUN = 1000


def started_walk(plan):
    """Returns the walk of a program before any status is told."""
    walk = walk_of(plan)
    go_on(walk)
    return walk


def tell(walk, status):
    """Tells the status of the command that the walk asks for."""
    walk.asking = None
    walk.begun = 0
    walk.going = True
    set_checked(walk, status, walk.tested)
    go_on(walk)


def walk_behind(walk, status):
    """Returns the walk behind a status of the command that another one asks for."""
    later = walk.copied()
    tell(later, status)
    return later


def go_on(walk):
    while walk.going:
        node = walk.coming
        if node is None:
            go_back(walk)
        elif walk.begun == MOST_BEGUN:
            walk.silent = True
            walk.going = False
        else:
            walk.coming = None
            walk.begun += 1
            if walk.notes is not None:
                walk.note(node.path, "begun")
            action = BEGINNINGS[node.word]
            action(walk, walk.shells[-1], node, walk.tested)


def go_back(walk):
    """Goes on behind the end of a tree, in the tree around it or in the shell."""
    shell = walk.shells[-1]
    if shell.frames:
        frame = shell.frames[-1]
        action = RETURNS[frame.node.word]
        action(walk, shell, frame)
        return
    note_end(walk, shell, "over")
    if shell.traps["end"] is not None and not shell.end_begun:
        shell.end_begun = True
        begin_trap_body(walk, shell, "end")
    else:
        close_shell(walk)


# The ends of shells.


def close_shell(walk):
    status = walk.shells.pop().last
    if walk.shells:
        shell = walk.shells[-1]
        frame = shell.frames[-1]
        action = SHELL_RETURNS[frame.node.word]
        action(walk, shell, frame, status)
    else:
        walk.status = status
        walk.going = False


def return_from_sub(walk, shell, frame, status):
    shell.frames.pop()
    set_checked(walk, status, frame.tested)


def return_from_part(walk, shell, frame, status):
    """Goes on in a pipe behind the end status of one of its parts."""
    if status != 0:
        frame.held = status
    if frame.place + 1 < len(frame.node.parts):
        walk.open_shell(frame.started)
        begin_part(walk, frame, frame.place + 1)
        return
    shell.frames.pop()
    set_checked(walk, frame.held if shell.options["pipes"] else status, frame.tested)


# The beginnings of trees.


def begin_run(walk, shell, node, tested):
    walk.asking = node
    walk.going = False


def begin_status(walk, shell, node, tested):
    set_checked(walk, node.tree[1], tested)


def begin_give(walk, shell, node, tested):
    set_checked(walk, shell.variables[node.tree[1]], tested)


def begin_zero(walk, shell, node, tested):
    value = shell.variables[node.tree[1]]
    set_checked(walk, 0 if value == 0 else 1, tested)


def begin_keep(walk, shell, node, tested):
    shell.variables[node.tree[1]] = shell.last
    shell.last = 0


def begin_put(walk, shell, node, tested):
    _, name, number = node.tree
    shell.variables[name] = number
    shell.last = 0


def begin_option(walk, shell, node, tested):
    _, word, switch = node.tree
    shell.options[word] = switch
    shell.last = 0


def begin_trap(walk, shell, node, tested):
    _, kind, body = node.tree
    shell.traps[kind] = None if body is None else node
    shell.last = 0


def begin_seq(walk, shell, node, tested):
    frame = walk.open_tree(node, tested)
    begin_part(walk, frame, 0)


def begin_with_test(walk, shell, node, tested):
    """Begins an and, or, not, if, while or until: its first part is tested."""
    walk.open_tree(node, tested)
    walk.plan_next(node.part(0), True)


def begin_times(walk, shell, node, tested):
    rounds = node.tree[1]
    if rounds == 0:
        walk.note(node.path, "over")
        shell.last = 0
        return
    frame = walk.open_tree(node, tested)
    frame.rounds = rounds
    begin_part(walk, frame, 0)


def begin_break(walk, shell, node, tested):
    leave_to_loop(walk, shell, node.tree[1], "break")
    pop_frame(walk, shell, "break")
    shell.last = 0


def begin_next(walk, shell, node, tested):
    frame = leave_to_loop(walk, shell, node.tree[1], "next")
    # The round counts as a body even if the next stands in the condition.
    frame.place = len(frame.node.parts) - 1
    shell.last = 0


def begin_call(walk, shell, node, tested):
    walk.open_tree(node, tested)
    shell.calls += 1
    walk.plan_next(walk.bodies[node.tree[1]], tested)


def begin_return(walk, shell, node, tested):
    leave_to_call(walk, shell)
    if node.tree[1] is not None:
        shell.last = node.tree[1]
    finish_call(walk, shell, "return")


def begin_exit(walk, shell, node, tested):
    status = node.tree[1]
    if status is None:
        status = shell.last if shell.trap_started is None else shell.trap_started
    leave_all(walk, shell, status, "exit")


def begin_new_shell(walk, shell, node, tested):
    """Begins a sub or the first part of a pipe."""
    frame = walk.open_tree(node, tested)
    frame.started = shell.last
    walk.open_shell(frame.started)
    begin_part(walk, frame, 0)


# What open trees do behind the end of a part.


def begin_part(walk, frame, place):
    """Begins a part that is checked or tested as the tree itself is."""
    frame.place = place
    walk.plan_next(frame.node.part(place), frame.tested)


def return_to_seq(walk, shell, frame):
    if frame.place + 1 < len(frame.node.parts):
        begin_part(walk, frame, frame.place + 1)
    else:
        shell.frames.pop()


def return_to_and_or(walk, shell, frame):
    went_well = shell.last == 0
    if frame.place == 0 and went_well == (frame.node.word == "and"):
        begin_part(walk, frame, 1)
    else:
        shell.frames.pop()


def return_to_not(walk, shell, frame):
    shell.frames.pop()
    shell.last = 1 if shell.last == 0 else 0


def return_to_if(walk, shell, frame):
    if frame.place == 0 and shell.last == 0:
        begin_part(walk, frame, 1)
    elif frame.place == 0 and len(frame.node.parts) == 3:
        begin_part(walk, frame, 2)
    else:
        shell.frames.pop()
        if frame.place == 0:
            shell.last = 0


def return_to_while(walk, shell, frame):
    """Goes on in a while or until."""
    went_well = shell.last == 0
    if frame.place == 1:
        frame.held = shell.last
        frame.place = 0
        walk.plan_next(frame.node.part(0), True)
    elif went_well == (frame.node.word == "while"):
        begin_part(walk, frame, 1)
    else:
        pop_frame(walk, shell, "over")
        shell.last = frame.held


def return_to_times(walk, shell, frame):
    frame.rounds -= 1
    if frame.rounds > 0:
        begin_part(walk, frame, 0)
    else:
        pop_frame(walk, shell, "over")


def return_to_call(walk, shell, frame):
    finish_call(walk, shell, "over")


def finish_call(walk, shell, word):
    frame = shell.frames[-1]
    pop_frame(walk, shell, word)
    # The call is not open any more at its own check.
    shell.calls -= 1
    set_checked(walk, shell.last, frame.tested)


BEGINNINGS = {
    "run": begin_run,
    "status": begin_status,
    "give": begin_give,
    "zero": begin_zero,
    "keep": begin_keep,
    "put": begin_put,
    "option": begin_option,
    "trap": begin_trap,
    "seq": begin_seq,
    "and": begin_with_test,
    "or": begin_with_test,
    "not": begin_with_test,
    "if": begin_with_test,
    "while": begin_with_test,
    "until": begin_with_test,
    "times": begin_times,
    "break": begin_break,
    "next": begin_next,
    "call": begin_call,
    "return": begin_return,
    "exit": begin_exit,
    "sub": begin_new_shell,
    "pipe": begin_new_shell,
}

RETURNS = {
    "trap": return_to_trap,
    "seq": return_to_seq,
    "and": return_to_and_or,
    "or": return_to_and_or,
    "not": return_to_not,
    "if": return_to_if,
    "while": return_to_while,
    "until": return_to_while,
    "times": return_to_times,
    "call": return_to_call,
}

SHELL_RETURNS = {"sub": return_from_sub, "pipe": return_from_part}
