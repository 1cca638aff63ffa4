"""Forms of arguments, which several files ask for: numbers, pairs, cells, counts, rising rows."""

from pairfloors.errors import BadCell, BadCount


def is_number(value):
    """Whether value is a number: True and False are ints for Python, but no numbers here."""
    return isinstance(value, int) and not isinstance(value, bool)


def is_below(value, limit):
    """Whether value is a number from 0 to limit - 1."""
    return is_number(value) and 0 <= value < limit


def are_numbers(value, many):
    """Whether value is a tuple of so many numbers."""
    return isinstance(value, tuple) and len(value) == many and all([is_number(entry) for entry in value])


def is_rising_pair(value, limit):
    """Whether value is a pair (a, b) of numbers with 0 <= a < b < limit."""
    return are_numbers(value, 2) and 0 <= value[0] < value[1] < limit


def first_fault(things, fits):
    """The index of the first thing that does not fit or is not greater than the one before it, or -1."""
    for at, thing in enumerate(things):
        if not fits(thing):
            return at
        if at > 0 and thing <= things[at - 1]:
            return at
    return -1


def check_cell(web, x):
    """Refuse x unless it is a cell of the web."""
    if not is_below(x, web.size):
        raise BadCell(x)


def check_count(number, least, most):
    """Refuse a number that is not from least to most."""
    if not least <= number <= most:
        raise BadCount(number)
