"""Texts of webs."""

from pairfloors.errors import BadText
from pairfloors.webs import Web
from pairfloors.words import named_numbers, numbers_of


def web_text(web):
    """The text of the web."""
    return "\n".join([f"web {web.size}"] + [f"{a} {b}" for a, b in web.links])


def web_from(text):
    """The web of which the text is."""
    first, *others = text.split("\n")
    rows = [named_numbers(first, "web", 1)] + [numbers_of(row.split(" "), 2) for row in others]
    if None in rows:
        raise BadText(rows.index(None))
    return Web(rows[0][0], tuple(rows[1:]))
