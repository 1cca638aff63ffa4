"""Squares: the mates of two cells near a third one."""

from pairfloors.errors import BadPair
from pairfloors.forms import check_cell


def square_mate(web, y, x, z):
    """The least cell other than y that is linked to x and to z, two cells near y; or None."""
    check_cell(web, y)
    check_cell(web, x)
    check_cell(web, z)
    if x == z or not web.linked(x, y) or not web.linked(z, y):
        raise BadPair((x, z))
    return least_mate(web, y, x, z)


def least_mate(web, y, x, z):
    """As square_mate, for cells that are known to be two cells near y."""
    for mate in web.near(x):
        if mate != y and web.linked(mate, z):
            return mate
    return None
