"""Worlds: webs with coats and the table of their changes."""

from pairfloors.forms import check_count
from pairfloors.tables import checked_table

LEAST_COATS = 2
MOST_COATS = 6


class World:
    """A web with 2 to 6 coats and a table of the pairs of coats that change into one another. It never changes."""

    def __init__(self, web, coats, *, table=None):
        check_coats(coats)
        self.web = web
        self.coats = coats
        self.table = checked_table(coats, table)


def check_coats(coats):
    """Refuse a number of coats that no world has."""
    check_count(coats, LEAST_COATS, MOST_COATS)
