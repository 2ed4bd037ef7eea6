"""Texts fall into words: names, kept words, numbers and signs."""

from leanscript.errors import NoText

KEPT = ("let", "if", "else", "while", "return", "fail", "try", "catch", "out", "fn")
LONG_SIGNS = ("<=", ">=", "==", "!=", "&&", "||")
SHORT_SIGNS = ("+", "-", "*", "/", "~", "<", ">", "!", "?", ":", ".", ",", "=", "(", ")", "{", "}", "[", "]", ";")
MOST_LETTERS = 12
MOST_FIGURES = 18


def is_letter(sign):
    return "a" <= sign <= "z"


def is_figure(sign):
    return "0" <= sign <= "9"


def is_letter_or_figure(sign):
    return is_letter(sign) or is_figure(sign)


def is_name(thing):
    """Whether anything is a name."""
    if not isinstance(thing, str) or not 1 <= len(thing) <= MOST_LETTERS or thing in KEPT:
        return False
    return all([is_letter(sign) for sign in thing])


def is_plain_number(word):
    """Whether a text is figures without needless noughts."""
    if word == "" or not all([is_figure(sign) for sign in word]):
        return False
    return word == "0" or word[0] != "0"


def is_number(word):
    """Whether a text is a number, perhaps with an e for noughts behind."""
    head, parted, tail = word.partition("e")
    if not is_plain_number(head):
        return False
    if parted == "":
        return len(head) <= MOST_FIGURES
    if head == "0" or tail == "0" or len(tail) > 2 or not is_plain_number(tail):
        return False
    return len(head) + int(tail) <= MOST_FIGURES


def number_told(word):
    """The number for which a word that is one stands."""
    head, _, tail = word.partition("e")
    if tail == "":
        return int(head)
    return int(head + "0" * int(tail))


def run_end(text, at):
    """The place behind the small letters and figures that stand from a place on."""
    while at < len(text) and is_letter_or_figure(text[at]):
        at += 1
    return at


def sort_of(word, at):
    """The sort of a run of small letters and figures that begins at a place."""
    if word in KEPT:
        return "kept"
    if is_name(word):
        return "name"
    if is_number(word):
        return "number"
    raise NoText(at)


def sign_end(text, at):
    """The place behind the longest sign that begins at a place."""
    if text[at:at + 2] in LONG_SIGNS:
        return at + 2
    if text[at] in SHORT_SIGNS:
        return at + 1
    raise NoText(at)


def words(text):
    """The words of a text: tuples (sort, word, at)."""
    told = []
    at = 0
    while at < len(text):
        if text[at] in (" ", "\n"):
            at += 1
            continue
        # Behind such a word neither letter nor figure may stand, so it is the whole run or none.
        if is_letter_or_figure(text[at]):
            end = run_end(text, at)
            sort = sort_of(text[at:end], at)
        else:
            end = sign_end(text, at)
            sort = "sign"
        told.append((sort, text[at:end], at))
        at = end
    return told
