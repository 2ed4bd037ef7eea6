"""The words of a text, taken one behind the other, and what is made of them."""

from leanscript.errors import NoText
from leanscript.words import number_told, words


class Node:
    """A thing of a tree with its spot, and the nodes in it: tuples (steps to it, node)."""

    def __init__(self, thing, begin, end, inner):
        self.thing = thing
        self.begin = begin
        self.end = end
        self.inner = inner


class Source:
    """Stands ahead of one of the words of a text, or behind the last."""

    def __init__(self, text):
        self.size = len(text)
        self.rows = words(text)
        self.now = 0

    def at_end(self):
        return self.now == len(self.rows)

    def sort_ahead(self):
        """The sort of the word ahead, the text without signs at the end."""
        return "" if self.at_end() else self.rows[self.now][0]

    def word(self):
        """The word ahead, the text without signs at the end."""
        return "" if self.at_end() else self.rows[self.now][1]

    def place(self):
        """Where the word ahead begins."""
        return self.size if self.at_end() else self.rows[self.now][2]

    def passed(self):
        """The place behind the last word taken."""
        _, word, at = self.rows[self.now - 1]
        return at + len(word)

    def go_on(self):
        self.now += 1

    def take(self, word):
        """Takes a word that must be ahead."""
        if self.word() != word:
            raise NoText(self.place())
        self.go_on()

    def takes(self, word):
        """Whether a word is ahead; takes it then."""
        if self.word() != word:
            return False
        self.go_on()
        return True

    def take_name(self):
        """The node of a name that must be ahead."""
        if self.sort_ahead() != "name":
            raise NoText(self.place())
        begin, name = self.place(), self.word()
        self.go_on()
        return Node(name, begin, begin + len(name), [])

    def take_leaf(self):
        """The node of a number or a name that must be ahead, as an expression."""
        if self.sort_ahead() == "number":
            thing = ("num", number_told(self.word()))
        elif self.sort_ahead() == "name":
            thing = ("name", self.word())
        else:
            raise NoText(self.place())
        begin = self.place()
        self.go_on()
        return Node(thing, begin, self.passed(), [])

    def word_behind(self, sign):
        """The word behind the first one ahead that is a sign, the text without signs where there is none."""
        for at in range(self.now, len(self.rows) - 1):
            if self.rows[at][1] == sign:
                return self.rows[at + 1][1]
        return ""


def things_of(nodes):
    return tuple([node.thing for node in nodes])


def numbered(steps, nodes):
    """Some nodes with the steps to them, which end with their places in a tuple."""
    return [((*steps, at), node) for at, node in enumerate(nodes)]
