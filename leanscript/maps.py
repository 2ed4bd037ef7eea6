"""Maps: for each word of a text its stretch, and the stretch of another text from which it comes."""

from leanscript.edits import least_stretch
from leanscript.errors import NoMap, NoText
from leanscript.forms import is_whole
from leanscript.words import words

FIGURES = "0123456789abcdefghijklmnopqrstuv"
BASE = 32
MOST_FIGURES = 30


def is_entry(thing):
    """Whether anything is a tuple of four whole numbers."""
    return isinstance(thing, tuple) and len(thing) == 4 and all([is_whole(number) for number in thing])


def is_entry_of(entry, row, size):
    """Whether an entry is that of a word, to a text of a size."""
    begin, end, first, last = entry
    _, word, at = row
    return begin == at and end == at + len(word) and 0 <= first <= last <= size


def is_map(thing, text, other):
    """Whether anything is a map of one text to another one."""
    rows = words(text)
    if not isinstance(thing, list) or len(thing) != len(rows):
        return False
    return all([is_entry(entry) and is_entry_of(entry, row, len(other)) for entry, row in zip(thing, rows)])


def lead(entries, at):
    """The stretch from which the word comes that has a place."""
    for begin, end, first, last in entries:
        if is_whole(at) and begin <= at < end:
            return (first, last)
    raise NoMap("no word has the place")


def stretch_of(entries, first, last):
    """The least stretch that holds those from which the words come that have a place of a stretch."""
    met = [entry[2:] for entry in entries if max(entry[0], first) < min(entry[1], last)]
    if not met:
        raise NoMap("no word has a place of the stretch")
    return least_stretch(met)


def after(entries, other):
    """The map of a text to a third one, of that to a second one and that of the second to the third."""
    return [(begin, end, *stretch_of(other, first, last)) for begin, end, first, last in entries]


def number_text(number):
    """A number in base 32."""
    figures = ""
    rest = abs(number)
    while rest > 0 or figures == "":
        figures = FIGURES[rest & 31] + figures
        rest = rest // BASE
    return "-" + figures if number < 0 else figures


def less(entry, other):
    """The numbers of an entry, each less the same of another one."""
    return [one - ahead for one, ahead in zip(entry, other)]


def map_text(entries):
    """The text of a map."""
    ahead = (0, 0, 0, 0)
    told = []
    for entry in entries:
        told.append(" ".join([number_text(number) for number in less(entry, ahead)]))
        ahead = entry
    return ";".join(told)


def number_read(word):
    """The number of a word in base 32 as it is written, None for all else."""
    figures = word[1:] if word.startswith("-") else word
    if not 1 <= len(figures) <= MOST_FIGURES or not all([sign in FIGURES for sign in figures]):
        return None
    number = 0
    for sign in figures:
        number = number * BASE + FIGURES.index(sign)
    told = -number if word.startswith("-") else number
    return told if number_text(told) == word else None


def entry_read(text, ahead):
    """The entry written behind another one."""
    numbers = [number_read(word) for word in text.split(" ")]
    if len(numbers) != 4 or None in numbers:
        raise NoText(0)
    begin, end, first, last = [number + one for number, one in zip(numbers, ahead)]
    if begin < ahead[1] or end <= begin or first < 0 or last < first:
        raise NoText(0)
    return (begin, end, first, last)


def read_map(text):
    """The map that a text writes."""
    if not isinstance(text, str):
        raise NoText(0)
    if text == "":
        return []
    told = []
    ahead = (0, 0, 0, 0)
    for row in text.split(";"):
        ahead = entry_read(row, ahead)
        told.append(ahead)
    return told
