"""The teller: tells what a tree does, part by part."""

from leanscript.errors import NoCount
from leanscript.forms import is_whole
from leanscript.shapes import is_give
from leanscript.trees import must_tree
from leanscript.worths import NO_KIND, NO_PARAMETERS, NO_ROOM, NO_WORTH, Failing, Lasting, Record
from leanscript.worths import contrary, fields_of, number_of, property_of, two_told, worths_of_ins

MOST = 2000
MOST_CALLS = 12


class Room:
    """A room as it is come to: the names that it has, and the worths of those let so far."""

    def __init__(self, names, worths, around):
        self.names = names
        self.worths = worths
        self.around = around


class Closure:
    """A function, with the room around it."""

    def __init__(self, xs, body, room):
        self.xs = xs
        self.body = body
        self.room = room


class Play:
    """A run as far as it has come."""

    def __init__(self, ins, most):
        self.ins = ins
        self.most = most
        self.made = 0
        self.calls = 0
        self.outs = []


def make_step(play):
    if play.made == play.most:
        raise Lasting()
    play.made += 1


def let_names(statements):
    """The names that the lets of a list let."""
    return [x for part in statements if part[0] == "let" for x, _ in part[1]]


def list_room(statements, around):
    """A new room of a list."""
    return Room(let_names(statements), {}, around)


def room_having(room, name):
    """The innermost room around that has a name, None where none has."""
    while room is not None and name not in room.names:
        room = room.around
    return room


def named_worth(play, name, room):
    having = room_having(room, name)
    worths = play.ins if having is None else having.worths
    if name not in worths:
        raise Failing(NO_WORTH)
    return worths[name]


def worth_of(play, part, room):
    """The worth of an expression in a room."""
    word = part[0]
    if word == "num":
        return part[1]
    if word == "name":
        return named_worth(play, part[1], room)
    if word == "get":
        return property_of(worth_of(play, part[1], room), part[2])
    if word == "call":
        called = worth_of(play, part[1], room)
        return worth_of_call(play, called, [worth_of(play, e, room) for e in part[2]])
    if word == "rec":
        return Record({k: worth_of(play, e, room) for k, e in part[1]})
    if word == "fn":
        return Closure(part[1], part[2], room)
    if word == "neg":
        return -number_of(worth_of(play, part[1], room))
    if word == "not":
        return contrary(worth_of(play, part[1], room))
    if word == "two":
        left = worth_of(play, part[2], room)
        return two_told(part[1], left, worth_of(play, part[3], room))
    first = worth_of(play, part[1], room)
    if word == "and":
        return first if first == 0 else worth_of(play, part[2], room)
    if word == "or":
        return worth_of(play, part[2], room) if first == 0 else first
    return worth_of(play, part[3] if first == 0 else part[2], room)


def worth_of_call(play, called, given):
    """The worth of a call of a worth with those given."""
    if not isinstance(called, Closure):
        raise Failing(NO_KIND)
    if len(given) != len(called.xs):
        raise Failing(NO_PARAMETERS)
    if play.calls == MOST_CALLS:
        raise Failing(NO_ROOM)
    make_step(play)
    play.calls += 1
    worth = worth_of_body(play, called, dict(zip(called.xs, given)))
    play.calls -= 1
    return worth


def worth_of_body(play, called, worths):
    """The worth of a function's body, with the worths of its xs."""
    if is_give(called.body):
        return worth_of(play, called.body[1], Room(called.xs, worths, called.room))
    room = Room([*called.xs, *let_names(called.body)], worths, called.room)
    left = do_list(play, called.body, room)
    return 0 if left is None else left[0]


def do_list(play, statements, room):
    """Does statements: tells None, or where a return is come to a tuple of its worth."""
    for part in statements:
        left = do_statement(play, part, room)
        if left is not None:
            return left
    return None


def do_statement(play, part, room):
    """Does a statement: tells as do_list."""
    word = part[0]
    if word == "return":
        return (worth_of(play, part[1], room),)
    if word == "block":
        return do_list(play, part[1], list_room(part[1], room))
    if word == "if":
        return do_if(play, part, room)
    if word == "while":
        return do_while(play, part, room)
    if word == "try":
        return do_try(play, part, room)
    do_plain(play, part, room)
    return None


def do_plain(play, part, room):
    """Does a statement in which no other one stands."""
    word = part[0]
    if word == "let":
        for x, e in part[1]:
            room.worths[x] = worth_of(play, e, room)
    elif word == "set":
        do_set(play, part, room)
    elif word == "put":
        record = worth_of(play, part[1], room)
        worth = worth_of(play, part[3], room)
        fields_of(record)[part[2]] = worth
    elif word == "do":
        worth_of(play, part[1], room)
    elif word == "fail":
        raise Failing(number_of(worth_of(play, part[1], room)))
    else:
        play.outs.append(number_of(worth_of(play, part[1], room)))


def do_set(play, part, room):
    worth = worth_of(play, part[2], room)
    worths = room_having(room, part[1]).worths
    if part[1] not in worths:
        raise Failing(NO_WORTH)
    worths[part[1]] = worth


def do_alone(play, part, room):
    """Does a statement that stands as an s or t: a let there is a room of its own."""
    if part[0] == "let":
        return do_list(play, (part,), list_room((part,), room))
    return do_statement(play, part, room)


def do_if(play, part, room):
    chosen = part[3] if worth_of(play, part[1], room) == 0 else part[2]
    return None if chosen is None else do_alone(play, chosen, room)


def do_while(play, part, room):
    while True:
        make_step(play)
        if worth_of(play, part[1], room) == 0:
            return None
        left = do_alone(play, part[2], room)
        if left is not None:
            return left


def do_try(play, part, room):
    calls = play.calls
    try:
        return do_list(play, part[1], list_room(part[1], room))
    except Failing as failing:
        number = failing.number
    # The calls that were begun within are left by the failure.
    play.calls = calls
    return do_list(play, part[3], Room([part[2], *let_names(part[3])], {part[2]: number}, room))


def must_count_steps(most):
    """Refuses anything that is no count of steps that may be made."""
    if not is_whole(most) or not 0 <= most <= MOST:
        raise NoCount("no whole number from 0 to 2000")


def ended_play(play, tree):
    """Does a whole tree: how it ends, and the number of that."""
    try:
        do_list(play, tree, list_room(tree, None))
    except Failing as failing:
        return ("failed", failing.number)
    except Lasting:
        return ("long", 0)
    return ("done", 0)


def run(tree, ins, *, most=MOST):
    """What a tree does with the ins: (end, number, outs, steps)."""
    must_tree(tree)
    must_count_steps(most)
    play = Play(worths_of_ins(ins), most)
    end, number = ended_play(play, tree)
    return (end, number, play.outs, play.made)
