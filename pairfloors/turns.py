"""Turns: three steps that exchange two stones."""

from pairfloors.errors import BadStep
from pairfloors.walkers import left_by, walker


def turn(web, stones, stay, u, v):
    """The three steps round stay that exchange the stones at u and v."""
    pair = walker(web, stones)
    left = left_by(web, pair, (stay, u))
    if left is None or left_by(web, pair, (stay, v)) is None or u == v:
        raise BadStep((u, v))
    return ((stay, u), (stay, v), (stay, left))
