"""Kinds of parts: dot, stout, ring and narrow."""

from pairfloors.forms import is_below
from pairfloors.parts import part_of
from pairfloors.squares import least_mate


def is_stout(web, x):
    """Judge: whether the part of x is stout."""
    if not is_below(x, web.size):
        return False
    return all([len(web.near(y)) >= 2 and hang_together(web, y) for y in part_of(web, x)])


def is_all_stout(web):
    """Whether the web is connected and stout."""
    return len(part_of(web, 0)) == web.size and is_stout(web, 0)


def kind(web, x):
    """The kind of the part of x: "dot", "stout", "ring" or "narrow", the first that fits."""
    part = part_of(web, x)
    if len(part) == 1:
        return "dot"
    if is_stout(web, x):
        return "stout"
    if all([len(web.near(y)) == 2 for y in part]):
        return "ring"
    return "narrow"


def hang_together(web, y):
    """Whether one comes from each cell near y to each other one over cells near y that have a mate at y."""
    waiting = list(web.near(y))
    reached = [waiting.pop()]
    while reached:
        x = reached.pop()
        mated = [z for z in waiting if least_mate(web, y, x, z) is not None]
        waiting = [z for z in waiting if z not in mated]
        reached.extend(mated)
    return len(waiting) == 0
