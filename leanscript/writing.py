"""Trees written as texts."""

from leanscript.levels import AHEAD, BEHIND, LEVELS, LOOSEST, level_of
from leanscript.reading import spots
from leanscript.shapes import is_give
from leanscript.trees import must_tree
from leanscript.words import is_letter_or_figure


def number_word(number):
    """The shortest word of a number, of several such the first."""
    figures = str(number)
    best = figures
    for many in range(1, len(figures)):
        if figures.endswith("0" * many):
            word = figures[:len(figures) - many] + "e" + str(many)
            if (len(word), word) < (len(best), best):
                best = word
    return best


def with_commas(rows):
    """Lists of words, put together with commas between."""
    told = []
    for row in rows:
        if told:
            told.append(",")
        told.extend(row)
    return told


def fn_words(part):
    head = ["fn", "(", *with_commas([[x] for x in part[1]]), ")"]
    if is_give(part[2]):
        return [*head, *expression_words(part[2][1], LOOSEST)]
    return [*head, *braced_words(part[2])]


def two_words(sign, left, right):
    """Words of two sides: of like signs the left ones are put together first, so brackets stand at the right."""
    level = LEVELS[sign]
    return [*expression_words(left, level), sign, *expression_words(right, level + 1)]


def pick_words(part):
    test = expression_words(part[1], LOOSEST + 1)
    return [*test, "?", *expression_words(part[2], LOOSEST), ":", *expression_words(part[3], LOOSEST)]


def bare_words(part):
    """The words of an expression without brackets around it."""
    word = part[0]
    if word == "num":
        return [number_word(part[1])]
    if word == "name":
        return [part[1]]
    if word == "get":
        return [*expression_words(part[1], BEHIND), ".", part[2]]
    if word == "call":
        given = with_commas([expression_words(e, LOOSEST) for e in part[2]])
        return [*expression_words(part[1], BEHIND), "(", *given, ")"]
    if word == "rec":
        return ["[", *with_commas([[k, ":", *expression_words(e, LOOSEST)] for k, e in part[1]]), "]"]
    if word == "fn":
        return fn_words(part)
    if word == "neg":
        return ["-", *expression_words(part[1], AHEAD)]
    if word == "not":
        return ["!", *expression_words(part[1], AHEAD)]
    if word == "two":
        return two_words(part[1], part[2], part[3])
    if word == "and":
        return two_words("&&", part[1], part[2])
    if word == "or":
        return two_words("||", part[1], part[2])
    return pick_words(part)


def expression_words(part, level):
    """The words of an expression, in brackets where it binds looser than a level."""
    told = bare_words(part)
    return ["(", *told, ")"] if level_of(part) < level else told


def braced_words(statements):
    return ["{", *list_words(statements), "}"]


def plain_words(part):
    """The words of a statement that ends with ;."""
    word = part[0]
    if word == "let":
        return ["let", *with_commas([[x, "=", *expression_words(e, LOOSEST)] for x, e in part[1]]), ";"]
    if word == "set":
        return [part[1], "=", *expression_words(part[2], LOOSEST), ";"]
    if word == "put":
        return [*expression_words(part[1], BEHIND), ".", part[2], "=", *expression_words(part[3], LOOSEST), ";"]
    if word == "do":
        return [*expression_words(part[1], LOOSEST), ";"]
    return [word, *expression_words(part[1], LOOSEST), ";"]


def statement_words(part):
    word = part[0]
    if word == "if":
        told = ["if", "(", *expression_words(part[1], LOOSEST), ")", *statement_words(part[2])]
        return told if part[3] is None else [*told, "else", *statement_words(part[3])]
    if word == "while":
        return ["while", "(", *expression_words(part[1], LOOSEST), ")", *statement_words(part[2])]
    if word == "try":
        return ["try", *braced_words(part[1]), "catch", "(", part[2], ")", *braced_words(part[3])]
    if word == "block":
        return braced_words(part[1])
    return plain_words(part)


def list_words(statements):
    """The words of a list of statements, without the ; that may be left out at its end."""
    told = []
    for part in statements:
        told.extend(statement_words(part))
    return told[:-1] if told and told[-1] == ";" else told


def tight_text(tree):
    """The shortest text of what is known to be a tree."""
    told = []
    is_sign_ahead = True
    for word in list_words(tree):
        is_sign = not is_letter_or_figure(word[0])
        told.append(word if is_sign or is_sign_ahead else " " + word)
        is_sign_ahead = is_sign
    return "".join(told)


def tight(tree):
    """The shortest text of a tree, of several such the first."""
    must_tree(tree)
    return tight_text(tree)


def tight_spots(tree):
    """The spots of the shortest text of a tree."""
    return spots(tight(tree))


def plain(tree):
    """The words of a tree, each in a line of its own."""
    must_tree(tree)
    return "\n".join(list_words(tree))
