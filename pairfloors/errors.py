"""The errors of the package: all stand under Refused, and none under another one."""


class Refused(ValueError):
    """What is asked for is refused; what tells the bad number or thing."""

    def __init__(self, what):
        self.what = what


class BadSize(Refused):
    """Refused: a size, or a number of entries, cells or parts, that may not be."""


class BadCount(Refused):
    """Refused: a count that is out of its bounds."""


class BadLink(Refused):
    """Refused: an entry of the links that may not stand there."""


class TooMany(Refused):
    """Refused: more links, deeds or trials than are let."""


class BadCell(Refused):
    """Refused: a number that is no cell."""


class BadPair(Refused):
    """Refused: two cells that may not go together here."""


class BadHole(Refused):
    """Refused: an entry of the holes that may not stand there."""


class BadWall(Refused):
    """Refused: an entry of the walls that may not stand there."""


class BadDoor(Refused):
    """Refused: an entry of the doors that may not stand there."""


class BadSpot(Refused):
    """Refused: a place that is not in the plan."""


class BadTable(Refused):
    """Refused: an entry of the table that may not stand there."""


class Loose(Refused):
    """Refused: a coat to which the table does not lead."""


class BadCoat(Refused):
    """Refused: a coat that is none, or a cell that wears none."""


class BadDeed(Refused):
    """Refused: a deed that is not let."""


class BadRun(Refused):
    """Refused: an entry of the run that is not let when it comes."""


class BadNumber(Refused):
    """Refused: a number that is out of its bounds."""


class BadWeighing(Refused):
    """Refused: a weighing that is none."""


class BadStone(Refused):
    """Refused: a cell whose stone is none."""


class BadWalker(Refused):
    """Refused: cells that are no walker's."""


class BadStep(Refused):
    """Refused: a step that is none when it comes."""


class BadAnswer(Refused):
    """Refused: an answer or a key that is none."""


class BadRow(Refused):
    """Refused: a row that says nothing to a house."""


class BadText(Refused):
    """Refused: a row of a text that has a bad form."""


class BadMap(Refused):
    """Refused: a merging row that is none."""


class NotRing(Refused):
    """Refused: a part that is no ring."""


class Narrow(Refused):
    """Refused: a narrow part that is not still."""


class NotStout(Refused):
    """Refused: a web that is not connected and stout."""


class OneSided(Refused):
    """Refused: a part that is one-sided."""


class NotSame(Refused):
    """Refused: floors that are not the same."""


class NoWay(Refused):
    """Refused: steps that there are not."""


class TooLarge(Refused):
    """Refused: a web, a part or a world that is too large to be searched."""


class NoGoal(Refused):
    """Refused: a house without a goal."""


class NoTrial(Refused):
    """Refused: a house without an open trial."""


class NothingToUndo(Refused):
    """Refused: a house in which no deed can be undone."""


class NothingToRedo(Refused):
    """Refused: a house in which no deed can be redone."""
