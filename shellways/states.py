"""What a program has come to: its open shells and the open trees in them."""

from shellways.plans import OF_VARIABLES


class Frame:
    """A tree that was begun and is not finished."""

    def __init__(self, node, tested):
        self.node = node
        self.tested = tested
        # The number of the part that is carried out.
        self.place = 0
        # A while or until: the status of the last body. A pipe: the last
        # failure among the finished parts. 0 if there is none.
        self.held = 0
        # A pipe: the status with which each part starts.
        self.started = 0
        # A times: the number of rounds that are not finished.
        self.rounds = 0


class Shell:
    """An open shell. Its frames go from the outermost open tree to the innermost."""

    def __init__(self, last, options, variables):
        self.last = last
        self.options = dict(options)
        self.variables = dict(variables)
        # The nodes of the trees that set the traps.
        self.traps = {"end": None, "fail": None}
        self.end_begun = False
        self.frames = []
        # The number of open calls.
        self.calls = 0
        # The status with which the open trap body started, None if there is
        # none. There is never more than one: nothing is checked inside a trap
        # body, and the end of a shell leaves all its open trees.
        self.trap_started = None

    def leave_all(self, status):
        """Leaves all open trees, so that the shell ends with the status."""
        self.last = status
        self.frames.clear()
        self.calls = 0
        self.trap_started = None


class Walk:
    """How far a program was carried out.

    It goes on until it asks for a command (`asking` is the node of its run), has
    ended (`status` is the end status) or is silent.
    """

    def __init__(self, plan):
        options = {"fail": False, "pipes": False}
        variables = {name: 0 for name in plan.names_of(OF_VARIABLES)}
        self.shells = [Shell(0, options, variables)]
        # The node that is begun next, None behind the end of a tree.
        self.coming = plan.main
        # Whether the tree that is begun next, or the run that asks, is tested.
        self.tested = False
        # The number of trees begun since a status was told.
        self.begun = 0
        self.asking = None
        self.status = None
        self.silent = False

    def open_shell(self, last):
        """Starts a new shell inside the innermost one."""
        shell = self.shells[-1]
        self.shells.append(Shell(last, shell.options, shell.variables))

    def open_tree(self, node, tested):
        """Opens a tree that has parts, and returns its frame."""
        frame = Frame(node, tested)
        self.shells[-1].frames.append(frame)
        return frame

    def plan_next(self, node, tested):
        self.coming = node
        self.tested = tested
