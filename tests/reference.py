"""A second way to carry out programs, for tests: trees call one another in Python.

It follows the words of the document directly, with generators that yield the
run that asks and are sent its status, and with exceptions for all that leaves
trees. It takes valid programs only, and none with trees open very deep.
"""


class Leaving(Exception):
    """Trees are left; `word` is the way."""

    word = None


class Break(Leaving):
    word = "break"

    def __init__(self, loops):
        super().__init__()
        self.loops = loops


class Next(Break):
    word = "next"


class Return(Leaving):
    word = "return"


class ShellEnd(Leaving):
    def __init__(self, status, word):
        super().__init__()
        self.status = status
        self.word = word


class Silence(Exception):
    pass


class Shell:
    def __init__(self, last, options, variables):
        self.last = last
        self.options = options
        self.variables = variables
        self.traps = {}
        self.calls = 0
        self.starts = []
        self.end_done = False


class Open:
    """An open tree: what it holds, and its rounds left or the number of its part."""

    def __init__(self, path, word):
        self.path = path
        self.word = word
        self.holds = []
        self.rounds = 0


class Walker:
    def __init__(self, program):
        self.bodies = {}
        for number, (name, body) in enumerate(program[0]):
            self.bodies[name] = (body, (number,))
        self.main = program[1]
        self.begun = 0
        self.shells = []
        self.open = []
        # All that happened: tuples (path, word); the path () is that of the first shell.
        self.events = []
        self.fates = []

    def whole(self):
        shell = Shell(0, {}, {})
        return (yield from self.in_shell(shell, self.main, (-1,), False))

    def in_shell(self, shell, tree, path, tested):
        """Returns the end status of the shell."""
        self.shells.append(shell)
        try:
            yield from self.carry(shell, tree, path, tested)
            status, word = shell.last, "over"
        except ShellEnd as end:
            status, word = end.status, end.word
        if len(self.shells) == 1:
            self.events.append(((), word))
        if "end" in shell.traps and not shell.end_done:
            shell.end_done = True
            shell.calls = 0
            shell.last = status
            shell.starts = [status]
            try:
                yield from self.carry_trap(shell, shell.traps["end"], status)
            except ShellEnd as end:
                status = end.status
        self.shells.pop()
        return status

    def carry_trap(self, shell, trap, status):
        body, path = trap
        entry = Open(path, "trap body")
        entry.holds = [status]
        self.open.append(entry)
        try:
            yield from self.carry(shell, body, path, True)
        finally:
            self.open.pop()

    def check(self, shell, tested):
        if tested or shell.last == 0:
            return
        failure = shell.last
        if "fail" in shell.traps and shell.calls == 0:
            shell.starts.append(failure)
            yield from self.carry_trap(shell, shell.traps["fail"], failure)
            shell.starts.pop()
            shell.last = failure
        if shell.options.get("fail"):
            raise ShellEnd(failure, "check")

    def carry(self, shell, tree, path, tested):
        if self.begun == 1000:
            raise Silence
        self.begun += 1
        self.events.append((path, "begun"))
        self.open.append(Open(path, tree[0]))
        try:
            yield from self.act(shell, tree, path, tested)
        finally:
            self.open.pop()

    def fate(self, shell, tested):
        if shell.last == 0:
            return None
        if tested:
            return "tested"
        if "fail" in shell.traps and shell.calls == 0:
            return "trapped"
        return "ended" if shell.options.get("fail") else "ignored"

    def act(self, shell, tree, path, tested):
        word = tree[0]
        if word == "run":
            shell.last = yield (tree[1], path)
            self.begun = 0
            self.fates.append(self.fate(shell, tested))
            yield from self.check(shell, tested)
        elif word in ("status", "give", "zero"):
            value = tree[1] if word == "status" else shell.variables.get(tree[1], 0)
            shell.last = min(value, 1) if word == "zero" else value
            yield from self.check(shell, tested)
        elif word == "keep":
            shell.variables[tree[1]] = shell.last
            shell.last = 0
        elif word == "put":
            shell.variables[tree[1]] = tree[2]
            shell.last = 0
        elif word == "option":
            shell.options[tree[1]] = tree[2]
            shell.last = 0
        elif word == "trap":
            shell.traps.pop(tree[1], None)
            if tree[2] is not None:
                shell.traps[tree[1]] = (tree[2], path + (0,))
            shell.last = 0
        elif word in ("while", "until", "times"):
            try:
                way = yield from self.loop(shell, tree, path, tested)
                self.events.append((path, way))
            except Leaving as leaving:
                self.events.append((path, leaving.word))
                raise
        elif word in ("break", "next"):
            shell.last = 0
            raise (Break if word == "break" else Next)(tree[1])
        elif word == "return":
            shell.last = shell.last if tree[1] is None else tree[1]
            raise Return
        elif word == "exit":
            innermost = shell.starts[-1] if shell.starts else shell.last
            raise ShellEnd(innermost if tree[1] is None else tree[1], "exit")
        else:
            yield from self.compound(shell, tree, path, tested)

    def compound(self, shell, tree, path, tested):
        word = tree[0]
        if word == "seq":
            for place, part in enumerate(tree[1]):
                yield from self.carry(shell, part, path + (place,), tested)
        elif word in ("and", "or"):
            yield from self.carry(shell, tree[1], path + (0,), True)
            if (word == "and") is (shell.last == 0):
                yield from self.carry(shell, tree[2], path + (1,), tested)
        elif word == "not":
            yield from self.carry(shell, tree[1], path + (0,), True)
            shell.last = int(shell.last == 0)
        elif word == "if":
            yield from self.carry(shell, tree[1], path + (0,), True)
            if shell.last == 0:
                yield from self.carry(shell, tree[2], path + (1,), tested)
            elif tree[3] is not None:
                yield from self.carry(shell, tree[3], path + (2,), tested)
            else:
                shell.last = 0
        elif word == "call":
            yield from self.call(shell, tree, path, tested)
        elif word == "sub":
            inner = Shell(shell.last, dict(shell.options), dict(shell.variables))
            shell.last = yield from self.in_shell(inner, tree[1], path + (0,), tested)
            yield from self.check(shell, tested)
        else:
            yield from self.pipe(shell, tree, path, tested)

    def call(self, shell, tree, path, tested):
        body, body_path = self.bodies[tree[1]]
        shell.calls += 1
        try:
            yield from self.carry(shell, body, body_path, tested)
            self.events.append((path, "over"))
        except Return:
            self.events.append((path, "return"))
        except Leaving as leaving:
            self.events.append((path, leaving.word))
            raise
        shell.calls -= 1
        yield from self.check(shell, tested)

    def pipe(self, shell, tree, path, tested):
        entry = self.open[-1]
        entry.holds = [shell.last, 0]
        for place, part in enumerate(tree[1]):
            # In an end trap of a part, the part itself is not open any more.
            entry.rounds = place
            inner = Shell(shell.last, dict(shell.options), dict(shell.variables))
            status = yield from self.in_shell(inner, part, path + (place,), tested)
            if status:
                entry.holds[1] = status
        shell.last = entry.holds[1] if shell.options.get("pipes") else status
        entry.holds = []
        yield from self.check(shell, tested)

    def loop(self, shell, tree, path, tested):
        """Returns the way in which the loop came to its end."""
        entry = self.open[-1]
        held = 0
        rounds = tree[1] if tree[0] == "times" else None
        while rounds is None or rounds > 0:
            try:
                if rounds is None:
                    entry.holds = [held]
                    yield from self.carry(shell, tree[1], path + (0,), True)
                    entry.holds = []
                    if (tree[0] == "while") is not (shell.last == 0):
                        break
                    yield from self.carry(shell, tree[2], path + (1,), tested)
                else:
                    entry.rounds = rounds
                    rounds -= 1
                    yield from self.carry(shell, tree[2], path + (0,), tested)
                held = shell.last
            except Break as leaving:
                if leaving.loops > 1:
                    leaving.loops -= 1
                    raise
                held = 0
                if not isinstance(leaving, Next):
                    shell.last = 0
                    return "break"
        shell.last = held
        return "over"

    def situation(self):
        """Returns what tells the situation apart, held statuses aside, and these statuses."""
        trees = tuple((entry.path, entry.word, entry.rounds) for entry in self.open)
        shells = tuple((shell.options.get("fail", False), shell.options.get("pipes", False),
                        shell.traps.get("end", (0, None))[1], shell.traps.get("fail", (0, None))[1],
                        shell.end_done) for shell in self.shells)
        return trees, shells

    def held(self, names):
        held = [shell.variables.get(name, 0) for shell in self.shells for name in names]
        return held + [status for entry in self.open for status in entry.holds]


class Told:
    """What a row leads to."""

    def __init__(self, program, row):
        self.walker = Walker(program)
        self.told = []
        walk = self.walker.whole()
        # Kept, for a generator that ends closes its open trees.
        self.walk = walk
        try:
            self.asked = next(walk)
            for status in row:
                self.told.append(self.asked)
                self.asked = walk.send(status)
            self.outcome = ("asks", self.asked[0])
        except StopIteration as end:
            self.outcome = ("ended", end.value, len(self.told))
        except Silence:
            self.outcome = ("silent", len(self.told))


def walked(program, row):
    """Returns the runs told a status, as tuples (name, path), and the outcome."""
    told = Told(program, row)
    return told.told, told.outcome


def first_events(program, length):
    """Returns for each event the least row of 0 and 1 behind which it happened, up to a length."""
    firsts = {}
    rows = [[]]
    while rows:
        longer = []
        for row in rows:
            told = Told(program, row)
            for event in told.walker.events:
                firsts.setdefault(event, row)
            if told.outcome[0] == "asks" and len(row) < length:
                longer += [row + [0], row + [1]]
        rows = longer
    return firsts


def reference_machine(program, names, most):
    """Returns the machine of a program; `names` are its variables. None if it is larger than `most`."""
    numbers, rows, entries = {}, [], []

    def number_of(row):
        told = Told(program, row)
        walker = told.walker
        held, outline = [], told.outcome[0]
        if outline == "ended":
            held = [told.outcome[1]]
        elif outline == "asks":
            held, outline = walker.held(names), walker.situation()
        symbols = list(dict.fromkeys(status for status in held if status >= 1000))
        key = (outline, tuple(("s", symbols.index(x)) if x >= 1000 else ("n", x) for x in held))
        if key not in numbers:
            numbers[key] = len(rows)
            rows.append((row, told, symbols))
        return numbers[key], symbols

    number_of([])
    for at in range(10 ** 9):
        if at == len(rows) or len(rows) > most:
            break
        row, told, symbols = rows[at]
        if told.outcome[0] == "ended":
            entries.append(("end", "slot" if symbols else told.outcome[1]))
        elif told.outcome[0] == "silent":
            entries.append(("silent",))
        else:
            steps = []
            for status in (0, 1000 + len(row)):
                number, after = number_of(row + [status])
                moves = tuple("now" if x == 1000 + len(row) else symbols.index(x) for x in after)
                steps.append((number, moves))
            name, path = told.asked
            entries.append(("ask", path, name, len(symbols), *steps))
    return None if len(rows) > most else entries
