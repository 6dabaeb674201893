"""A second way to carry out programs, for tests: trees call one another in Python.

It follows the words of the document directly, with generators that yield the
run that asks and are sent its status, and with exceptions for all that leaves
trees. It takes valid programs only, and none with trees open very deep.
"""


class Break(Exception):
    def __init__(self, loops):
        super().__init__()
        self.loops = loops


class Next(Break):
    pass


class Return(Exception):
    pass


class ShellEnd(Exception):
    def __init__(self, status):
        super().__init__()
        self.status = status


class Silence(Exception):
    pass


class Shell:
    def __init__(self, last, options, variables):
        self.last = last
        self.options = options
        self.variables = variables
        self.traps = {}
        self.calls = 0
        self.starts = []
        self.end_done = False


class Machine:
    def __init__(self, program):
        self.bodies = {}
        for number, (name, body) in enumerate(program[0]):
            self.bodies[name] = (body, (number,))
        self.main = program[1]
        self.begun = 0

    def whole(self):
        shell = Shell(0, {}, {})
        return (yield from self.in_shell(shell, self.main, (-1,), False))

    def in_shell(self, shell, tree, path, tested):
        """Returns the end status of the shell."""
        try:
            yield from self.carry(shell, tree, path, tested)
            status = shell.last
        except ShellEnd as end:
            status = end.status
        if "end" in shell.traps and not shell.end_done:
            shell.end_done = True
            shell.calls = 0
            shell.last = status
            shell.starts = [status]
            body, body_path = shell.traps["end"]
            try:
                yield from self.carry(shell, body, body_path, True)
            except ShellEnd as end:
                status = end.status
        return status

    def check(self, shell, tested):
        if tested or shell.last == 0:
            return
        failure = shell.last
        if "fail" in shell.traps and shell.calls == 0:
            body, path = shell.traps["fail"]
            shell.starts.append(failure)
            yield from self.carry(shell, body, path, True)
            shell.starts.pop()
            shell.last = failure
        if shell.options.get("fail"):
            raise ShellEnd(failure)

    def carry(self, shell, tree, path, tested):
        if self.begun == 1000:
            raise Silence
        self.begun += 1
        word = tree[0]
        if word == "run":
            shell.last = yield (tree[1], path)
            self.begun = 0
            yield from self.check(shell, tested)
        elif word in ("status", "give", "zero"):
            value = tree[1] if word == "status" else shell.variables.get(tree[1], 0)
            shell.last = min(value, 1) if word == "zero" else value
            yield from self.check(shell, tested)
        elif word == "keep":
            shell.variables[tree[1]] = shell.last
            shell.last = 0
        elif word == "put":
            shell.variables[tree[1]] = tree[2]
            shell.last = 0
        elif word == "option":
            shell.options[tree[1]] = tree[2]
            shell.last = 0
        elif word == "trap":
            shell.traps.pop(tree[1], None)
            if tree[2] is not None:
                shell.traps[tree[1]] = (tree[2], path + (0,))
            shell.last = 0
        elif word in ("while", "until", "times"):
            yield from self.loop(shell, tree, path, tested)
        elif word in ("break", "next"):
            shell.last = 0
            raise (Break if word == "break" else Next)(tree[1])
        elif word == "return":
            shell.last = shell.last if tree[1] is None else tree[1]
            raise Return
        elif word == "exit":
            innermost = shell.starts[-1] if shell.starts else shell.last
            raise ShellEnd(innermost if tree[1] is None else tree[1])
        else:
            yield from self.compound(shell, tree, path, tested)

    def compound(self, shell, tree, path, tested):
        word = tree[0]
        if word == "seq":
            for place, part in enumerate(tree[1]):
                yield from self.carry(shell, part, path + (place,), tested)
        elif word in ("and", "or"):
            yield from self.carry(shell, tree[1], path + (0,), True)
            if (word == "and") is (shell.last == 0):
                yield from self.carry(shell, tree[2], path + (1,), tested)
        elif word == "not":
            yield from self.carry(shell, tree[1], path + (0,), True)
            shell.last = int(shell.last == 0)
        elif word == "if":
            yield from self.carry(shell, tree[1], path + (0,), True)
            if shell.last == 0:
                yield from self.carry(shell, tree[2], path + (1,), tested)
            elif tree[3] is not None:
                yield from self.carry(shell, tree[3], path + (2,), tested)
            else:
                shell.last = 0
        elif word == "call":
            body, body_path = self.bodies[tree[1]]
            shell.calls += 1
            try:
                yield from self.carry(shell, body, body_path, tested)
            except Return:
                pass
            shell.calls -= 1
            yield from self.check(shell, tested)
        elif word == "sub":
            inner = Shell(shell.last, dict(shell.options), dict(shell.variables))
            shell.last = yield from self.in_shell(inner, tree[1], path + (0,), tested)
            yield from self.check(shell, tested)
        else:
            statuses = []
            for place, part in enumerate(tree[1]):
                inner = Shell(shell.last, dict(shell.options), dict(shell.variables))
                statuses.append((yield from self.in_shell(inner, part, path + (place,), tested)))
            shell.last = statuses[-1]
            if shell.options.get("pipes"):
                shell.last = ([0] + [status for status in statuses if status])[-1]
            yield from self.check(shell, tested)

    def loop(self, shell, tree, path, tested):
        held = 0
        rounds = tree[1] if tree[0] == "times" else None
        while rounds is None or rounds > 0:
            try:
                if rounds is None:
                    yield from self.carry(shell, tree[1], path + (0,), True)
                    if (tree[0] == "while") is not (shell.last == 0):
                        break
                    yield from self.carry(shell, tree[2], path + (1,), tested)
                else:
                    rounds -= 1
                    yield from self.carry(shell, tree[2], path + (0,), tested)
                held = shell.last
            except Break as leaving:
                if leaving.loops > 1:
                    leaving.loops -= 1
                    raise
                held = 0
                if not isinstance(leaving, Next):
                    break
        shell.last = held


def walked(program, row):
    """Returns the runs told a status, as tuples (name, path), and the outcome."""
    told = []
    walk = Machine(program).whole()
    try:
        asked = next(walk)
        for status in row:
            told.append(asked)
            asked = walk.send(status)
        return told, ("asks", asked[0])
    except StopIteration as end:
        return told, ("ended", end.value, len(told))
    except Silence:
        return told, ("silent", len(told))
