"""Papers: what shows that no run leads from one floor to another."""

from pairfloors.answers import core_along, two_answers
from pairfloors.floors import is_floor, stirs, worn
from pairfloors.forms import is_below
from pairfloors.keepers import coat_keeper, is_keeper
from pairfloors.kinds import kind
from pairfloors.parts import part_of, parts
from pairfloors.weighings import weigh


def apart(world, one, two):
    """A paper that is right for the two floors, or None if they are the same."""
    first, second = two_answers(world, one, two)
    for part, here, there in zip(parts(world.web), first, second):
        if here != there:
            return paper_on(world, part[0], here, there)
    return None


def apart_right(world, one, two, paper):
    """Judge: whether paper is a paper that is right for the floors one and two."""
    if not is_floor(world, one) or not is_floor(world, two) or not isinstance(paper, tuple):
        return False
    if len(paper) == 3 and paper[0] == "still":
        return shows_still(world, (one, two), paper[1], paper[2])
    if len(paper) == 3 and paper[0] == "weighs":
        return shows_weights(world, one, two, paper[1], paper[2])
    if len(paper) == 2 and paper[0] == "ring":
        return shows_cores(world.web, one, two, paper[1])
    return False


def paper_on(world, x, here, there):
    """A paper about the part of x, on which the answers of two floors have the unlike entries here and there."""
    if here[0] == "still":
        return ("still", x, 0)
    if there[0] == "still":
        return ("still", x, 1)
    if here[0] == "ring":
        return ("ring", x)
    if here[0] == "odd":
        unlike = [coat for coat in range(world.coats) if (coat in here[1]) != (coat in there[1])]
        return ("weighs", coat_keeper(world, x, unlike[0]), 2)
    unlike = [coat for coat in range(world.coats) if here[1][coat] != there[1][coat]]
    return ("weighs", coat_keeper(world, x, unlike[0]), 0)


def shows_still(world, floors, x, who):
    """Whether one of the floors, the one that who tells, is still on the part of x, and they differ there."""
    if not is_below(x, world.web.size) or not is_below(who, 2):
        return False
    part = part_of(world.web, x)
    return not stirs(world, floors[who], x) and worn(floors[0], part) != worn(floors[1], part)


def shows_weights(world, one, two, weighing, modulus):
    """Whether the weighing is a keeper for the modulus, and the floors weigh different numbers by it."""
    if not is_keeper(world, weighing, modulus):
        return False
    return weigh(world, one, weighing, modulus) != weigh(world, two, weighing, modulus)


def shows_cores(web, one, two, x):
    """Whether the part of x is a ring, and the floors have different cores along it."""
    if not is_below(x, web.size) or kind(web, x) != "ring":
        return False
    return core_along(web, one, x) != core_along(web, two, x)
