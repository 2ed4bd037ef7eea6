"""Worths: whole numbers, records and functions, and what is reckoned of them."""

NO_WORTH = -1
NO_KIND = -2
NO_PROPERTY = -3
NO_PARAMETERS = -4
NO_ROOM = -5
NO_QUOTIENT = -6
TOO_GREAT = -7


class Failing(Exception):
    """A failure on its way to the try that catches it, if there is one."""

    def __init__(self, number):
        self.number = number


class Lasting(Exception):
    """One more step than may be made."""


class Record:
    """A record, the same as itself alone."""

    def __init__(self, fields):
        self.fields = fields


def is_number_worth(worth):
    return isinstance(worth, int)


def number_of(worth):
    """A worth that must be a number."""
    if not is_number_worth(worth):
        raise Failing(NO_KIND)
    return worth


def fields_of(worth):
    """The properties of a worth that must be a record, as a dict."""
    if not isinstance(worth, Record):
        raise Failing(NO_KIND)
    return worth.fields


def property_of(worth, k):
    fields = fields_of(worth)
    if k not in fields:
        raise Failing(NO_PROPERTY)
    return fields[k]


def contrary(worth):
    """What not tells of a worth."""
    return 1 if worth == 0 else 0


def compared(sign, left, right):
    """Whether a sign of order holds between two numbers."""
    if sign == "<":
        return left < right
    if sign == ">":
        return left > right
    if sign == "<=":
        return left <= right
    return left >= right


def reckoned(sign, left, right):
    """What a sign that reckons makes of two numbers, however great."""
    if sign == "+":
        return left + right
    if sign == "-":
        return left - right
    if sign == "*":
        return left * right
    if right == 0:
        raise Failing(NO_QUOTIENT)
    return left // right if sign == "/" else left % right


def two_told(sign, left, right):
    """The worth of a two of two worths."""
    # Records and functions have no equality of their own, so each is equal to itself alone.
    if sign == "==":
        return 1 if left == right else 0
    if sign == "!=":
        return 0 if left == right else 1
    one, other = number_of(left), number_of(right)
    if sign in ("<", ">", "<=", ">="):
        return 1 if compared(sign, one, other) else 0
    told = reckoned(sign, one, other)
    if abs(told) > 10 ** 30:
        raise Failing(TOO_GREAT)
    return told


def worths_of_ins(ins):
    """The ins as worths, each dict as a record of its own."""
    told = {}
    for name, given in ins.items():
        told[name] = Record(dict(given)) if isinstance(given, dict) else given
    return told
