"""Webs: cells that are numbered from 0, and links between them."""

from pairfloors.errors import BadLink, BadSize, TooMany
from pairfloors.forms import check_cell, first_fault, is_below, is_rising_pair

MOST_CELLS = 40
MOST_LINKS = 160


class Web:
    """A web of size cells with strictly ascending links (a, b), a < b. It never changes."""

    def __init__(self, size, links):
        if not 1 <= size <= MOST_CELLS:
            raise BadSize(size)
        check_links(size, links)
        self.size = size
        self.links = links
        self._rows = near_rows(size, links)

    def near(self, x):
        """The cells that are linked to x, ascending."""
        check_cell(self, x)
        return self._rows[x]

    def linked(self, x, y):
        """Whether x and y are linked; numbers that are no cells are linked to nothing."""
        return is_below(x, self.size) and y in self._rows[x]


def check_links(size, links):
    """Refuse links that no web of so many cells may have."""
    if len(links) > MOST_LINKS:
        raise TooMany(len(links))
    at = first_fault(links, lambda link: is_rising_pair(link, size))
    if at >= 0:
        raise BadLink(at)


def near_rows(many, pairs):
    """For each of so many numbers the tuple of those that it makes a pair with.

    The rows ascend by themselves where the pairs (a, b), a < b, ascend strictly.
    """
    rows = [[] for _ in range(many)]
    for a, b in pairs:
        rows[a].append(b)
        rows[b].append(a)
    return tuple([tuple(row) for row in rows])


def web_within(web, cells):
    """The web of some ascending cells alone: numbered anew in their order, with the links between them."""
    number = {x: at for at, x in enumerate(cells)}
    links = [(number[a], number[b]) for a, b in web.links if a in number and b in number]
    return Web(len(cells), tuple(links))


def rising(a, b):
    """The link between a and b, the lesser cell first."""
    return (min(a, b), max(a, b))
