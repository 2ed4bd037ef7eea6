"""A desk: lines said to it are answered, of a trace that it keeps."""

from leanscript.errors import NoLine
from leanscript.goings import gone
from leanscript.maps import lead, map_text
from leanscript.naming import cost
from leanscript.rooms import bindings, outers
from leanscript.search import GONE
from leanscript.supply import must_be_letters
from leanscript.teller import run
from leanscript.tracing import Trace
from leanscript.turnings import turnings
from leanscript.turns import WORDS
from leanscript.whole import short_naming
from leanscript.words import is_name, is_plain_number

LETTERS = "abcdefghijklmnopqrstuvwxyz"
MOST_FIGURES = 30
OK = "ok"
NONE = "none"


def number_said(word):
    """The number of a word in figures."""
    if not is_plain_number(word) or len(word) > MOST_FIGURES:
        raise NoLine("no number")
    return int(word)


def whole_said(word):
    """The number of a word in figures, perhaps with - ahead of one that is then below 0."""
    if not word.startswith("-"):
        return number_said(word)
    number = number_said(word[1:])
    if number == 0:
        raise NoLine("no number below 0")
    return -number


def path_said(word):
    if word == "-":
        return ()
    return tuple([number_said(step) for step in word.split(".")])


def name_said(word):
    if not is_name(word):
        raise NoLine("no name")
    return word


def turning_said(word):
    if word != GONE and word not in WORDS:
        raise NoLine("no word of a turning")
    return word


def ins_said(given):
    """The ins of words of the form X=N."""
    ins = {}
    for word in given:
        left, parted, right = word.partition("=")
        x = name_said(left)
        number = whole_said(right)
        if parted == "" or x in ins:
            raise NoLine("no name of its own with a number")
        ins[x] = number
    return ins


def path_text(path):
    return ".".join([str(step) for step in path]) if path else "-"


def or_none(text):
    """A text, or what is answered where there is nothing."""
    return text if text != "" else NONE


def rows_text(rows):
    """The text of tuples (path, word)."""
    return or_none(", ".join([path_text(path) + " " + word for path, word in rows]))


def say_turn(trace, letters, given):
    path = path_said(given[0])
    trace.turn(path, turning_said(given[1]))
    return OK


def say_rename(trace, letters, given):
    trace.rename([name_said(word) for word in given])
    return OK


def say_bare(trace, letters, given):
    trace.bare()
    return OK


def say_lean(trace, letters, given):
    trace.lean()
    return OK


def say_back(trace, letters, given):
    trace.back()
    return OK


def say_least(trace, letters, given):
    trace.rename(short_naming(trace.tree(), letters))
    return OK


def say_show(trace, letters, given):
    return or_none(trace.text())


def say_size(trace, letters, given):
    return str(len(trace.text()))


def say_turnings(trace, letters, given):
    return rows_text(turnings(trace.tree()))


def say_gone(trace, letters, given):
    return rows_text(gone(trace.tree()))


def own_names(trace):
    """The names of the bindings of a trace's tree."""
    return [name for name, _, _ in bindings(trace.tree())]


def say_names(trace, letters, given):
    return or_none(" ".join(own_names(trace)))


def say_outers(trace, letters, given):
    return or_none(" ".join([name for name, _ in outers(trace.tree())]))


def say_cost(trace, letters, given):
    return str(cost(trace.tree(), own_names(trace)))


def say_run(trace, letters, given):
    end, number, outs, steps = run(trace.tree(), ins_said(given))
    return " ".join([end, *[str(told) for told in (number, steps, *outs)]])


def say_lead(trace, letters, given):
    at = number_said(given[0])
    first, last = lead(trace.map(), at)
    return str(first) + " " + str(last)


def say_map(trace, letters, given):
    return map_text(trace.map())


ANSWERS = {
    "turn": say_turn,
    "rename": say_rename,
    "bare": say_bare,
    "lean": say_lean,
    "back": say_back,
    "least": say_least,
    "show": say_show,
    "size": say_size,
    "turnings": say_turnings,
    "gone": say_gone,
    "names": say_names,
    "outers": say_outers,
    "cost": say_cost,
    "run": say_run,
    "lead": say_lead,
    "map": say_map,
}
# How many words stand behind one of these; behind rename and run as many as one likes, behind all others none.
COUNTS = {"turn": 2, "lead": 1}
ANY_COUNT = ("rename", "run")


def must_have_count(word, given):
    """Refuses a line of a word with other words behind it than it can have."""
    if word not in ANY_COUNT and len(given) != COUNTS.get(word, 0):
        raise NoLine("too many words or too few")


def answer(trace, letters, line):
    """The answer to a line, but for that of text."""
    # Where a blank is too many, a word without signs stands, which is none of all that is asked for.
    word, *given = line.split(" ")
    if word not in ANSWERS:
        raise NoLine("no line that the desk knows")
    must_have_count(word, given)
    action = ANSWERS[word]
    return action(trace, letters, given)


class Desk:
    """Keeps a trace, at first of the text without signs, and answers lines."""

    def __init__(self, *, letters=LETTERS):
        must_be_letters(letters)
        self.letters = letters
        self.trace = Trace("")

    def say(self, line):
        """The answer to a line."""
        if line.startswith("text "):
            self.trace = Trace(line[len("text "):])
            return OK
        return answer(self.trace, self.letters, line)
