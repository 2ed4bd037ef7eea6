"""Texts are put together to trees, with the spots of what stands in them."""

from leanscript.errors import NoText
from leanscript.levels import LEVELS
from leanscript.source import Node, Source, numbered, things_of


def listed(source, end, one):
    """Nodes with commas between, each taken by a function, up to a closing sign, which is taken."""
    nodes = []
    if source.takes(end):
        return nodes
    nodes.append(one(source))
    while source.takes(","):
        nodes.append(one(source))
    source.take(end)
    return nodes


def name_taken(source):
    return source.take_name()


def parameters(source):
    """The nodes of the names of an fn, with its word and its brackets taken."""
    source.take("fn")
    source.take("(")
    return listed(source, ")", name_taken)


def giving(source):
    """An fn that gives an expression."""
    begin = source.place()
    xs = parameters(source)
    node = expression(source)
    thing = ("fn", things_of(xs), ("give", node.thing))
    return Node(thing, begin, source.passed(), [*numbered((1,), xs), ((2, 1), node)])


def with_body(source):
    """An fn with statements."""
    begin = source.place()
    xs = parameters(source)
    body = in_braces(source)
    thing = ("fn", things_of(xs), things_of(body))
    return Node(thing, begin, source.passed(), [*numbered((1,), xs), *numbered((2,), body)])


def pair(source, sign):
    """A name and an expression with a sign between, as a node that is no part."""
    name = source.take_name()
    source.take(sign)
    node = expression(source)
    return Node((name.thing, node.thing), name.begin, node.end, [((0,), name), ((1,), node)])


def field(source):
    """A pair of a record."""
    return pair(source, ":")


def flattened(steps, pairs):
    """The nodes in the nodes of pairs."""
    return [((*steps, at, *inner), node) for at, row in enumerate(pairs) for inner, node in row.inner]


def record(source):
    begin = source.place()
    source.take("[")
    pairs = listed(source, "]", field)
    return Node(("rec", things_of(pairs)), begin, source.passed(), flattened((1,), pairs))


def tightest(source):
    if source.takes("("):
        node = expression(source)
        source.take(")")
        return node
    if source.word() == "[":
        return record(source)
    if source.word() == "fn":
        return with_body(source)
    return source.take_leaf()


def followed(source):
    """An expression with what stands behind it: properties and calls."""
    begin = source.place()
    node = tightest(source)
    while source.word() in (".", "("):
        if source.takes("."):
            k = source.take_name()
            node = Node(("get", node.thing, k.thing), begin, k.end, [((1,), node), ((2,), k)])
        else:
            source.take("(")
            es = listed(source, ")", expression)
            thing = ("call", node.thing, things_of(es))
            node = Node(thing, begin, source.passed(), [((1,), node), *numbered((2,), es)])
    return node


def operand(source):
    """An expression with the signs - and ! ahead of it."""
    ahead = []
    while source.word() in ("-", "!"):
        ahead.append((source.word(), source.place()))
        source.go_on()
    node = followed(source)
    for sign, begin in reversed(ahead):
        word = "neg" if sign == "-" else "not"
        node = Node((word, node.thing), begin, source.passed(), [((1,), node)])
    return node


def joined(sign, left, right):
    """Two sides, each (node, begin, end) with its brackets, put together by a sign."""
    one, begin, _ = left
    other, _, end = right
    if sign in ("&&", "||"):
        word = "and" if sign == "&&" else "or"
        node = Node((word, one.thing, other.thing), begin, end, [((1,), one), ((2,), other)])
    else:
        node = Node(("two", sign, one.thing, other.thing), begin, end, [((2,), one), ((3,), other)])
    return (node, begin, end)


def join_down_to(level, sides, signs):
    """Puts the last sides together, as long as the sign between them binds at least as a level does."""
    while signs and LEVELS[signs[-1]] >= level:
        right = sides.pop()
        left = sides.pop()
        sides.append(joined(signs.pop(), left, right))


def side(source):
    """An operand as (node, begin, end), with the brackets around it."""
    begin = source.place()
    node = operand(source)
    return (node, begin, source.passed())


def two_sided(source):
    """An expression of signs that stand between two sides."""
    sides = [side(source)]
    signs = []
    while source.word() in LEVELS:
        sign = source.word()
        join_down_to(LEVELS[sign], sides, signs)
        signs.append(sign)
        source.go_on()
        sides.append(side(source))
    join_down_to(0, sides, signs)
    return sides[0][0]


def expression(source):
    # Only names and commas stand between the brackets of an fn, so the first ) ahead is its own.
    if source.word() == "fn" and source.word_behind(")") != "{":
        return giving(source)
    begin = source.place()
    test = two_sided(source)
    if not source.takes("?"):
        return test
    one = expression(source)
    source.take(":")
    other = expression(source)
    thing = ("pick", test.thing, one.thing, other.thing)
    return Node(thing, begin, source.passed(), [((1,), test), ((2,), one), ((3,), other)])


def in_braces(source):
    """The nodes of the statements between { and }."""
    source.take("{")
    nodes = []
    while not source.takes("}"):
        nodes.append(statement(source))
    return nodes


def in_brackets(source):
    """The expression between ( and ) behind an if or a while."""
    source.take("(")
    node = expression(source)
    source.take(")")
    return node


def ended(source, node):
    """A statement with its ; taken, which may be left out ahead of } and at the end."""
    if not source.takes(";") and source.word() != "}" and not source.at_end():
        raise NoText(source.place())
    return node


def letting(source):
    begin = source.place()
    source.take("let")
    pairs = [pair(source, "=")]
    while source.takes(","):
        pairs.append(pair(source, "="))
    return Node(("let", things_of(pairs)), begin, source.passed(), flattened((1,), pairs))


def with_word(source, word):
    """A return, fail or out."""
    begin = source.place()
    source.take(word)
    node = expression(source)
    return Node((word, node.thing), begin, source.passed(), [((1,), node)])


def plain_statement(source):
    """A set, a put or a do."""
    begin = source.place()
    node = expression(source)
    # An expression that ends with a ) of its own ends ahead of that sign.
    settable = node.thing[0] in ("name", "get") and node.begin == begin and node.end == source.passed()
    if not settable or not source.takes("="):
        return Node(("do", node.thing), begin, source.passed(), [((1,), node)])
    worth = expression(source)
    if node.thing[0] == "name":
        x = Node(node.thing[1], node.begin, node.end, [])
        return Node(("set", x.thing, worth.thing), begin, source.passed(), [((1,), x), ((2,), worth)])
    (_, of), (_, k) = node.inner
    thing = ("put", of.thing, k.thing, worth.thing)
    return Node(thing, begin, source.passed(), [((1,), of), ((2,), k), ((3,), worth)])


def branching(source):
    """An if, with the else behind it that belongs to it."""
    begin = source.place()
    source.take("if")
    test = in_brackets(source)
    yes = statement(source)
    if not source.takes("else"):
        return Node(("if", test.thing, yes.thing, None), begin, yes.end, [((1,), test), ((2,), yes)])
    no = statement(source)
    thing = ("if", test.thing, yes.thing, no.thing)
    return Node(thing, begin, no.end, [((1,), test), ((2,), yes), ((3,), no)])


def looping(source):
    begin = source.place()
    source.take("while")
    test = in_brackets(source)
    again = statement(source)
    return Node(("while", test.thing, again.thing), begin, again.end, [((1,), test), ((2,), again)])


def trying(source):
    begin = source.place()
    source.take("try")
    tried = in_braces(source)
    source.take("catch")
    source.take("(")
    x = source.take_name()
    source.take(")")
    caught = in_braces(source)
    thing = ("try", things_of(tried), x.thing, things_of(caught))
    return Node(thing, begin, source.passed(), [*numbered((1,), tried), ((2,), x), *numbered((3,), caught)])


def block(source):
    begin = source.place()
    nodes = in_braces(source)
    return Node(("block", things_of(nodes)), begin, source.passed(), numbered((1,), nodes))


def statement(source):
    word = source.word()
    if word == "{":
        return block(source)
    if word == "if":
        return branching(source)
    if word == "while":
        return looping(source)
    if word == "try":
        return trying(source)
    if word == "let":
        return ended(source, letting(source))
    if word in ("return", "fail", "out"):
        return ended(source, with_word(source, word))
    return ended(source, plain_statement(source))


def parsed(text):
    """The node of the whole text, by words and by how they are put together alone."""
    source = Source(text)
    nodes = []
    while not source.at_end():
        nodes.append(statement(source))
    return Node(things_of(nodes), 0, source.size, numbered((), nodes))
