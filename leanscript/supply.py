"""The names that can be made of some letters, the shortest first."""

from leanscript.errors import NoCount, NoLetters
from leanscript.forms import is_whole
from leanscript.words import is_letter, is_name

FEWEST_LETTERS = 2
MOST_LETTERS = 26
MOST_NAMES = 400


def are_letters(thing):
    """Whether anything is a text of so many unlike small letters that names can be made of."""
    if not isinstance(thing, str) or not FEWEST_LETTERS <= len(thing) <= MOST_LETTERS:
        return False
    return all([is_letter(sign) and thing.find(sign) == at for at, sign in enumerate(thing)])


def must_be_letters(thing):
    if not are_letters(thing):
        raise NoLetters("no text of two to 26 unlike small letters")


def first_names(letters, many):
    """The first so many names of letters, also beyond what may be asked for from outside."""
    told = []
    row = [""]
    while len(told) < many:
        row = [name + letter for name in row for letter in letters]
        told.extend([name for name in row if is_name(name)])
    return told[:many]


def supply(letters, many):
    """The first so many names of letters."""
    must_be_letters(letters)
    if not is_whole(many) or not 0 <= many <= MOST_NAMES:
        raise NoCount("no whole number from 0 to 400")
    return first_names(letters, many)
