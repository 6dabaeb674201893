"""What a program has come to: its open shells and the open trees in them."""


class Frame:
    """A tree that was begun and is not finished."""

    def __init__(self, node, tested):
        self.node = node
        self.tested = tested
        # The number of the part that is carried out.
        self.place = 0
        # A while or until: the status of the last body. A pipe: the last
        # failure among the finished parts. 0 if there is none.
        self.held = 0
        # A pipe: the status with which each part starts.
        self.started = 0
        # A times: the number of rounds that are not finished.
        self.rounds = 0

    def copied(self):
        frame = Frame(self.node, self.tested)
        frame.place = self.place
        frame.held = self.held
        frame.started = self.started
        frame.rounds = self.rounds
        return frame


class Shell:
    """An open shell. Its frames go from the outermost open tree to the innermost."""

    def __init__(self, last, options, variables):
        self.last = last
        self.options = dict(options)
        self.variables = dict(variables)
        # The nodes of the trees that set the traps.
        self.traps = {"end": None, "fail": None}
        # Whether it began to end, and whether it carried out an end trap.
        self.ending = False
        self.end_begun = False
        self.frames = []
        # The number of open calls.
        self.calls = 0
        # The status with which the open trap body started, None if there is
        # none. There is never more than one: nothing is checked inside a trap
        # body, and the end of a shell leaves all its open trees.
        self.trap_started = None

    def copied(self):
        shell = Shell(self.last, self.options, self.variables)
        shell.traps = dict(self.traps)
        shell.ending = self.ending
        shell.end_begun = self.end_begun
        shell.frames = [frame.copied() for frame in self.frames]
        shell.calls = self.calls
        shell.trap_started = self.trap_started
        return shell


class Walk:
    """How far a program was carried out.

    It goes on until it asks for a command (`asking` is the node of its run), has
    ended (`status` is the end status) or is silent.
    """

    def __init__(self, bodies):
        # The nodes of the bodies of functions.
        self.bodies = bodies
        self.shells = []
        # The node that is begun next, None behind the end of a tree.
        self.coming = None
        # Whether the tree that is begun next, or the run that asks, is tested.
        self.tested = False
        # The number of trees begun since a status was told.
        self.begun = 0
        self.asking = None
        self.status = None
        self.silent = False
        # Whether none of these three is so yet.
        self.going = True
        # None, or a dict of True whose keys tell what happened: tuples of a
        # path, () for the first shell, and a word.
        self.notes = None

    def open_shell(self, last):
        """Starts a new shell inside the innermost one."""
        shell = self.shells[-1]
        self.shells.append(Shell(last, shell.options, shell.variables))

    def open_tree(self, node, tested):
        """Opens a tree that has parts, and returns its frame."""
        frame = Frame(node, tested)
        self.shells[-1].frames.append(frame)
        return frame

    def plan_next(self, node, tested):
        self.coming = node
        self.tested = tested

    def note(self, path, word):
        if self.notes is not None:
            self.notes[(path, word)] = True

    def copied(self):
        """Returns an equal walk that does not go on, without its notes."""
        walk = Walk(self.bodies)
        walk.shells = [shell.copied() for shell in self.shells]
        walk.tested = self.tested
        walk.asking = self.asking
        walk.status = self.status
        walk.silent = self.silent
        walk.going = False
        return walk


def walk_of(plan):
    """Returns the walk of a program that is about to begin its main tree."""
    walk = Walk(plan.bodies)
    options = {"fail": False, "pipes": False}
    walk.shells.append(Shell(0, options, {name: 0 for name in plan.variables}))
    walk.plan_next(plan.main, False)
    return walk
