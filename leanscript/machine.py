"""The machine: does lines, one behind the other, with a stack of worths and rooms of slots."""

from leanscript.teller import MOST, MOST_CALLS, make_step, must_count_steps
from leanscript.worths import NO_KIND, NO_PARAMETERS, NO_ROOM, NO_WORTH, Failing, Lasting, Record
from leanscript.worths import contrary, fields_of, number_of, property_of, two_told, worths_of_ins


class SlotRoom:
    """A row of slots, those without a worth None, and the room around it, None where there is none."""

    def __init__(self, slots, around):
        self.slots = slots
        self.around = around


class LineFunction:
    """A function that begins at a line, with the room in which it was made."""

    def __init__(self, line, count, many, room):
        self.line = line
        self.arity = count
        self.many = many
        self.room = room


class Machine:
    """The line that comes next, the stack, the room; calls: (line behind, room, height of the stack, marks) ahead
    of each; marks: (line, height of the stack, room, calls). It counts its steps as a play of the teller does."""

    def __init__(self, ins, most):
        self.ins = ins
        self.most = most
        self.made = 0
        self.outs = []
        self.now = 0
        self.stack = []
        self.room = SlotRoom([], None)
        self.calls = []
        self.marks = []


def push(machine, worth):
    machine.stack.append(worth)


def pulled(machine):
    """The top of the stack, which goes off."""
    return machine.stack.pop()


def pulled_row(machine, many):
    """So many from the top of the stack, the last on top, which go off."""
    height = len(machine.stack) - many
    row = machine.stack[height:]
    del machine.stack[height:]
    return row


def slots_up(machine, up):
    """The slots of the room so many rooms around."""
    room = machine.room
    for _ in range(up):
        room = room.around
    return room.slots


def do_num(machine, line):
    push(machine, line[1])


def do_ins(machine, line):
    if line[1] not in machine.ins:
        raise Failing(NO_WORTH)
    push(machine, machine.ins[line[1]])


def do_take(machine, line):
    worth = slots_up(machine, line[1])[line[2]]
    if worth is None:
        raise Failing(NO_WORTH)
    push(machine, worth)


def do_give(machine, line):
    worth = pulled(machine)
    slots = slots_up(machine, line[1])
    if slots[line[2]] is None:
        raise Failing(NO_WORTH)
    slots[line[2]] = worth


def do_first(machine, line):
    machine.room.slots[line[1]] = pulled(machine)


def do_open(machine, line):
    machine.room = SlotRoom([None] * line[1], machine.room)


def do_shut(machine, line):
    machine.room = machine.room.around


def do_get(machine, line):
    push(machine, property_of(pulled(machine), line[1]))


def do_put(machine, line):
    record, worth = pulled_row(machine, 2)
    fields_of(record)[line[1]] = worth


def do_rec(machine, line):
    worths = pulled_row(machine, len(line[1]))
    push(machine, Record(dict(zip(line[1], worths))))


def do_neg(machine, line):
    push(machine, -number_of(pulled(machine)))


def do_not(machine, line):
    push(machine, contrary(pulled(machine)))


def do_two(machine, line):
    left, right = pulled_row(machine, 2)
    push(machine, two_told(line[1], left, right))


def do_fn(machine, line):
    push(machine, LineFunction(line[1], line[2], line[3], machine.room))


def do_call(machine, line):
    given = pulled_row(machine, line[1])
    called = pulled(machine)
    if not isinstance(called, LineFunction):
        raise Failing(NO_KIND)
    if len(given) != called.arity:
        raise Failing(NO_PARAMETERS)
    if len(machine.calls) == MOST_CALLS:
        raise Failing(NO_ROOM)
    make_step(machine)
    machine.calls.append((machine.now, machine.room, len(machine.stack), len(machine.marks)))
    machine.room = SlotRoom(given + [None] * (called.many - called.arity), called.room)
    machine.now = called.line


def do_return(machine, line):
    worth = pulled(machine)
    machine.now, machine.room, height, marks = machine.calls.pop()
    del machine.stack[height:]
    del machine.marks[marks:]
    push(machine, worth)


def do_jump(machine, line):
    machine.now = line[1]


def do_if(machine, line):
    if pulled(machine) == 0:
        machine.now = line[1]


def do_and(machine, line):
    if machine.stack[-1] == 0:
        machine.now = line[1]
    else:
        pulled(machine)


def do_or(machine, line):
    if machine.stack[-1] == 0:
        pulled(machine)
    else:
        machine.now = line[1]


def do_drop(machine, line):
    pulled(machine)


def do_try(machine, line):
    machine.marks.append((line[1], len(machine.stack), machine.room, len(machine.calls)))


def do_tried(machine, line):
    machine.marks.pop()


def do_fail(machine, line):
    raise Failing(number_of(pulled(machine)))


def do_out(machine, line):
    machine.outs.append(number_of(pulled(machine)))


def do_step(machine, line):
    make_step(machine)


ACTIONS = {
    "num": do_num, "ins": do_ins, "take": do_take, "give": do_give, "first": do_first, "open": do_open, "shut": do_shut,
    "get": do_get, "put": do_put, "rec": do_rec, "neg": do_neg, "not": do_not, "two": do_two, "fn": do_fn,
    "call": do_call, "return": do_return, "jump": do_jump, "if": do_if, "and": do_and, "or": do_or, "drop": do_drop,
    "try": do_try, "tried": do_tried, "fail": do_fail, "out": do_out, "step": do_step,
}


def go_back(machine, number):
    """Goes on by the last mark, which a failure of a number takes."""
    machine.now, height, machine.room, calls = machine.marks.pop()
    del machine.stack[height:]
    del machine.calls[calls:]
    push(machine, number)


def do_lines(machine, lines):
    """Does lines, caught failures and what comes behind them, too, till the end or a failure that nothing catches."""
    while machine.now < len(lines) and lines[machine.now][0] != "end":
        line = lines[machine.now]
        machine.now += 1
        action = ACTIONS[line[0]]
        try:
            action(machine, line)
        except Failing as failing:
            if not machine.marks:
                raise
            number = failing.number
            go_back(machine, number)


def ended_lines(machine, lines):
    """Does lines: how they end, and the number of that."""
    try:
        do_lines(machine, lines)
    except Failing as failing:
        return ("failed", failing.number)
    except Lasting:
        return ("long", 0)
    return ("done", 0)


def go(lines, ins, *, most=MOST):
    """What lines that code told do with the ins: (end, number, outs, steps)."""
    must_count_steps(most)
    machine = Machine(worths_of_ins(ins), most)
    end, number = ended_lines(machine, lines)
    return (end, number, machine.outs, machine.made)
