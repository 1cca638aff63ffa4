"""Hops: shortest runs in two coats."""

from pairfloors.carriage import carriage
from pairfloors.sides import sides
from pairfloors.ways import way
from pairfloors.webs import rising


def hop_run(web, one, two):
    """A run from one to two with as many deeds as the least carriage costs."""
    pairs = carriage(web, one, two)
    shades = sides(web)
    cells = list(one)
    run = []
    # A load that is there in both floors is paired with itself: so no cell to which another one goes is loaded yet.
    for s, t in pairs:
        run.extend(hops_along(cells, shades, way(web, s, t)))
    return tuple(run)


def hops_along(cells, shades, row):
    """Take the load from the first cell of the row to the last one, over one link after the other; give the deeds.

    A load that is in the way goes on in place of the one behind it, which then takes its cell.
    """
    deeds = []
    free = len(row) - 1
    for at in range(len(row) - 2, -1, -1):
        if cells[row[at]] != shades[row[at]]:
            for x, y in zip(row[at:free], row[at + 1:free + 1]):
                coat = 1 - cells[x]
                cells[x] = coat
                cells[y] = coat
                deeds.append(rising(x, y) + (coat,))
            free = at
    return deeds
