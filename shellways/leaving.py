"""Checks, traps, and how shells and the trees in them are left.

A shell in which nothing is open any more, and nothing is to begin, ends with
its last status. The words that are noted tell in which way a loop, a call or
the first shell came to its end.
"""

from shellways.plans import LOOPS


def set_checked(walk, status, tested):
    """Sets the last status and carries out the check behind the tree."""
    shell = walk.shells[-1]
    shell.last = status
    if tested or status == 0:
        return
    if shell.traps["fail"] is not None and shell.calls == 0:
        begin_trap_body(walk, shell, "fail")
    elif shell.options["fail"]:
        leave_all(walk, shell, status, "check")


def begin_trap_body(walk, shell, kind):
    node = shell.traps[kind]
    shell.trap_started = shell.last
    walk.open_tree(node, True)
    walk.plan_next(node.part(0), True)


def return_to_trap(walk, shell, frame):
    status = shell.trap_started
    shell.trap_started = None
    shell.frames.pop()
    shell.last = status
    # Behind an end trap nothing is open, and the shell ends anyway.
    if shell.options["fail"]:
        leave_all(walk, shell, status, "check")


def leave_all(walk, shell, status, word):
    """Leaves all open trees, so that the shell ends with the status."""
    note_end(walk, shell, word)
    while shell.frames:
        pop_frame(walk, shell, word)
    shell.last = status
    shell.calls = 0
    shell.trap_started = None


def note_end(walk, shell, word):
    """Notes in which way the shell begins to end."""
    if not shell.ending:
        shell.ending = True
        if len(walk.shells) == 1:
            walk.note((), word)


def pop_frame(walk, shell, word):
    """Closes the innermost open tree of the shell."""
    frame = shell.frames.pop()
    if walk.notes is not None and (frame.node.word in LOOPS or frame.node.word == "call"):
        walk.note(frame.node.path, word)


def leave_to_loop(walk, shell, count, word):
    """Leaves all trees inside the loop with this number, and returns its frame."""
    loops = 0
    while True:
        frame = shell.frames[-1]
        if frame.node.word in LOOPS:
            loops += 1
        if loops == count:
            return frame
        pop_frame(walk, shell, word)


def leave_to_call(walk, shell):
    """Leaves all trees inside the innermost open call."""
    while shell.frames[-1].node.word != "call":
        pop_frame(walk, shell, "return")
