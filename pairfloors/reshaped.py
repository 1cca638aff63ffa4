"""Webs with a link put in, with a link taken out and with a cell taken out."""

from pairfloors.errors import BadPair
from pairfloors.forms import check_cell
from pairfloors.webs import Web, rising, web_within


def with_link(web, a, b):
    """The web with one more link, between a and b."""
    check_cell(web, a)
    check_cell(web, b)
    if a == b or web.linked(a, b):
        raise BadPair((a, b))
    # Web itself refuses a link too many.
    return Web(web.size, tuple(sorted(web.links + (rising(a, b),))))


def without_link(web, a, b):
    """The web without the link between a and b."""
    check_cell(web, a)
    check_cell(web, b)
    if not web.linked(a, b):
        raise BadPair((a, b))
    return Web(web.size, tuple([link for link in web.links if link != rising(a, b)]))


def without_cell(web, x):
    """The web without the cell x and its links; the numbers of later cells become less by one."""
    check_cell(web, x)
    # Web itself refuses to have no cell.
    return web_within(web, [y for y in range(web.size) if y != x])
