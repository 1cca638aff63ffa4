"""Normal floors: one floor for each answer."""

from pairfloors.answers import answer
from pairfloors.cores import ring_row
from pairfloors.parts import parts
from pairfloors.sides import sides


def normal(world, floor):
    """The normal floor of the floor."""
    cells = list(floor)
    for part, (name, told) in zip(parts(world.web), answer(world, floor)):
        if name != "still":
            for x in part:
                cells[x] = 0
            for x, coat in laid(world.web, part, name, told):
                cells[x] = coat
    return tuple(cells)


def home(web, part):
    """The home of a part of two or more cells, the lesser cell first."""
    return (web.near(part[-1])[-1], part[-1])


def laid(web, part, name, told):
    """The cells of the part, with their coats, on which its entry in the answer is laid; all others wear 0."""
    if name == "ring":
        return list(zip(ring_row(web, part[0]), told))
    free = [x for x in part if x not in home(web, part)]
    if name == "odd":
        return list(zip(free, [coat for coat in told if coat != 0]))
    shades = sides(web)
    above = [coat for coat, many in enumerate(told) for _ in range(many)]
    below = [coat for coat, many in enumerate(told) for _ in range(-many)]
    light = list(zip([x for x in free if shades[x] == 0], above))
    return light + list(zip([x for x in free if shades[x] == 1], below))
