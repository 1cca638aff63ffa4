"""Parts: the connected pieces of a web."""

from pairfloors.webs import web_within
from pairfloors.ways import steps_apart


def parts(web):
    """The parts of the web, each the ascending tuple of its cells, in the order of their least cells."""
    found = []
    seen = set()
    for x in range(web.size):
        if x not in seen:
            part = part_of(web, x)
            found.append(part)
            for y in part:
                seen.add(y)
    return tuple(found)


def part_of(web, x):
    """The part of x."""
    return tuple([y for y, steps in enumerate(steps_apart(web, x)) if steps >= 0])


def part_web(web, x):
    """The web of the part of x alone, its cells numbered anew in ascending order."""
    return web_within(web, part_of(web, x))
