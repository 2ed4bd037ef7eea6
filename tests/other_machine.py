"""A machine by the words of the document alone: it does one line behind the other, and nothing else."""

WORDS = {
    "num": ("number",), "ins": ("name",), "take": ("many", "many"), "give": ("many", "many"), "first": ("many",),
    "open": ("many",), "shut": (), "get": ("name",), "put": ("name",), "rec": ("names",), "neg": (), "not": (),
    "two": ("sign",), "fn": ("line", "many", "many"), "call": ("many",), "return": (), "jump": ("line",), "if": ("line",),
    "and": ("line",), "or": ("line",), "drop": (), "try": ("line",), "tried": (), "fail": (), "out": (), "step": (),
    "end": (),
}


class Wrong(Exception):
    """A failure, with its number."""


class Over(Exception):
    """One more step than may be made."""


class Rec(dict):
    """A record."""

    __hash__ = object.__hash__

    def __eq__(self, other):
        return self is other

    def __ne__(self, other):
        return self is not other


class Fun:
    """A function."""

    def __init__(self, line, count, many, room):
        self.line, self.count, self.many, self.room = line, count, many, room


class OtherMachine:

    def __init__(self, lines, ins, most=2000):
        self.lines = lines
        self.ins = {x: Rec(given) if isinstance(given, dict) else given for x, given in ins.items()}
        self.most = most
        self.steps = 0
        self.outs = []
        self.stack = []
        self.room = ([], None)
        self.line = 0
        self.calls = []
        self.marks = []

    def told(self):
        try:
            while self.line < len(self.lines) and self.lines[self.line] != ("end",):
                self.one()
        except Wrong as wrong:
            return ("failed", wrong.args[0], self.outs, self.steps)
        except Over:
            return ("long", 0, self.outs, self.steps)
        return ("done", 0, self.outs, self.steps)

    def one(self):
        line = self.lines[self.line]
        self.line += 1
        try:
            getattr(self, "do_" + line[0])(*line[1:])
        except Wrong as wrong:
            if not self.marks:
                raise
            self.line, height, self.room, calls = self.marks.pop()
            del self.stack[height:], self.calls[calls:]
            self.stack.append(wrong.args[0])

    def off(self):
        floors = [height for _, height, _, _ in self.marks] + [call[1] for call in self.calls] + [0]
        assert len(self.stack) > max(floors), "what lay there ahead is taken off"
        return self.stack.pop()

    def offs(self, many):
        return [self.off() for _ in range(many)][::-1]

    def slots(self, up):
        room = self.room
        for _ in range(up):
            room = room[1]
        return room[0]

    def number(self):
        worth = self.off()
        if not isinstance(worth, int):
            raise Wrong(-2)
        return worth

    def step(self):
        if self.steps == self.most:
            raise Over()
        self.steps += 1

    def do_num(self, n):
        self.stack.append(n)

    def do_ins(self, x):
        if x not in self.ins:
            raise Wrong(-1)
        self.stack.append(self.ins[x])

    def do_take(self, up, at):
        if self.slots(up)[at] is None:
            raise Wrong(-1)
        self.stack.append(self.slots(up)[at])

    def do_give(self, up, at):
        worth = self.off()
        if self.slots(up)[at] is None:
            raise Wrong(-1)
        self.slots(up)[at] = worth

    def do_first(self, at):
        self.room[0][at] = self.off()

    def do_open(self, many):
        self.room = ([None] * many, self.room)

    def do_shut(self):
        self.room = self.room[1]

    def do_get(self, k):
        worth = self.off()
        if not isinstance(worth, Rec):
            raise Wrong(-2)
        if k not in worth:
            raise Wrong(-3)
        self.stack.append(worth[k])

    def do_put(self, k):
        worth = self.off()
        record = self.off()
        if not isinstance(record, Rec):
            raise Wrong(-2)
        record[k] = worth

    def do_rec(self, ks):
        self.stack.append(Rec(zip(ks, self.offs(len(ks)))))

    def do_neg(self):
        self.stack.append(-self.number())

    def do_not(self):
        worth = self.off()
        self.stack.append(int(isinstance(worth, int) and worth == 0))

    def do_two(self, sign):
        f, e = self.off(), self.off()
        if sign in ("==", "!="):
            same = e is f or isinstance(e, int) and isinstance(f, int) and e == f
            return self.stack.append(int(same == (sign == "==")))
        if not isinstance(e, int) or not isinstance(f, int):
            raise Wrong(-2)
        if sign in ("/", "~") and f == 0:
            raise Wrong(-6)
        worth = {"+": lambda: e + f, "-": lambda: e - f, "*": lambda: e * f, "/": lambda: e // f, "~": lambda: e - e // f * f,
                 "<": lambda: int(e < f), ">": lambda: int(e > f), "<=": lambda: int(e <= f), ">=": lambda: int(e >= f)}[sign]()
        if not -10 ** 30 <= worth <= 10 ** 30:
            raise Wrong(-7)
        self.stack.append(worth)

    def do_fn(self, line, count, many):
        self.stack.append(Fun(line, count, many, self.room))

    def do_call(self, many):
        given = self.offs(many)
        called = self.off()
        if not isinstance(called, Fun):
            raise Wrong(-2)
        if called.count != many:
            raise Wrong(-4)
        if len(self.calls) == 12:
            raise Wrong(-5)
        self.step()
        self.calls.append((self.line, len(self.stack), self.room, len(self.marks)))
        self.room = (given + [None] * (called.many - many), called.room)
        self.line = called.line

    def do_return(self):
        worth = self.off()
        self.line, height, self.room, marks = self.calls.pop()
        del self.stack[height:], self.marks[marks:]
        self.stack.append(worth)

    def do_jump(self, line):
        self.line = line

    def do_if(self, line):
        if self.off() in (0,):
            self.line = line

    def do_and(self, line):
        if self.stack[-1] in (0,):
            self.line = line
        else:
            self.off()

    def do_or(self, line):
        if self.stack[-1] in (0,):
            self.off()
        else:
            self.line = line

    def do_drop(self):
        self.off()

    def do_try(self, line):
        self.marks.append((line, len(self.stack), self.room, len(self.calls)))

    def do_tried(self):
        self.marks.pop()

    def do_fail(self):
        raise Wrong(self.number())

    def do_out(self):
        self.outs.append(self.number())

    def do_step(self):
        self.step()
