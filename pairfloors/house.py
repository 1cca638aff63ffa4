"""Houses: floors that are changed by deeds, with a goal, a record, undoing and trials."""

from pairfloors.answers import answer, same
from pairfloors.deeds import after
from pairfloors.errors import BadSize, NoGoal, NoTrial, NothingToRedo, NothingToUndo, TooMany
from pairfloors.floors import checked_floor
from pairfloors.reshaped import with_link, without_link
from pairfloors.runs import replayed
from pairfloors.webs import rising
from pairfloors.worlds import World

MOST_HOUSE_CELLS = 12
MOST_STANDING = 200
MOST_LAID = 1000
MOST_TRIALS = 4


class House:
    """A floor of a web with some coats, all of which change into one another.

    All that is kept is tuples, webs and worlds, which never change: so what stood at some time is kept as it is, and
    put back whole.
    """

    def __init__(self, web, coats, *, floor=None):
        if web.size > MOST_HOUSE_CELLS:
            raise BadSize(web.size)
        self._world = World(web, coats)
        self._floor = (0,) * web.size if floor is None else checked_floor(self._world, floor)
        self._goal = None
        # For each standing deed its row and the moment before it; for each undone one its row and the moment behind it.
        self._standing = ()
        self._undone = ()
        self._trials = ()

    def floor(self):
        """The floor."""
        return self._floor

    def web(self):
        """The web."""
        return self._world.web

    def goal(self):
        """The goal, or None."""
        return self._goal

    def record(self):
        """A row for each standing deed, in order."""
        return tuple([row for row, _ in self._standing])

    def trials(self):
        """How many trials are open."""
        return len(self._trials)

    def answer(self):
        """The answer of the floor."""
        return answer(self._world, self._floor)

    def can(self):
        """Whether the floor and the goal are the same."""
        if self._goal is None:
            raise NoGoal(0)
        return same(self._world, self._floor, self._goal)

    def paint(self, x, y, coat):
        """Do one deed on the floor."""
        floor = after(self._world, self._floor, (x, y, coat))
        self._enter(("paint", x, y, coat, self._floor[x]))
        self._floor = floor

    def lay(self, run):
        """Do all deeds of a run on the floor, as one deed of the house."""
        if len(run) > MOST_LAID:
            raise TooMany(len(run))
        floor = replayed(self._world, self._floor, run)
        self._enter(("lay", run))
        self._floor = floor

    def link(self, a, b):
        """Put a link between two cells."""
        web = with_link(self._world.web, a, b)
        self._enter(("link",) + rising(a, b))
        self._world = World(web, self._world.coats)

    def cut(self, a, b):
        """Take the link between two cells out."""
        web = without_link(self._world.web, a, b)
        self._enter(("cut",) + rising(a, b))
        self._world = World(web, self._world.coats)

    def aim(self, floor):
        """Make a floor the goal."""
        checked_floor(self._world, floor)
        self._enter(("aim", floor))
        self._goal = floor

    def undo(self):
        """Take back the last standing deed."""
        kept = len(self._trials[-1][1]) if self._trials else 0
        if len(self._standing) == kept:
            raise NothingToUndo(0)
        row, before = self._standing[-1]
        self._undone = self._undone + ((row, self._moment()),)
        self._standing = self._standing[:-1]
        self._put_back(before)

    def redo(self):
        """Do the deed again that was undone last."""
        if not self._undone:
            raise NothingToRedo(0)
        row, behind = self._undone[-1]
        self._standing = self._standing + ((row, self._moment()),)
        self._undone = self._undone[:-1]
        self._put_back(behind)

    def begin(self):
        """Open a trial."""
        if len(self._trials) == MOST_TRIALS:
            raise TooMany(MOST_TRIALS + 1)
        self._trials = self._trials + ((self._moment(), self._standing, self._undone),)

    def keep(self):
        """Close the trial that was opened last; its deeds stay."""
        self._close()

    def drop(self):
        """Close the trial that was opened last, and put everything back as it was when it was opened."""
        moment, self._standing, self._undone = self._close()
        self._put_back(moment)

    def _moment(self):
        """What the deeds change, as it is now."""
        return (self._world, self._floor, self._goal)

    def _put_back(self, moment):
        """Make everything that deeds change as it was at the moment."""
        self._world, self._floor, self._goal = moment

    def _enter(self, row):
        """Enter a deed that is about to be done in the record, if one more may stand."""
        if len(self._standing) == MOST_STANDING:
            raise TooMany(MOST_STANDING + 1)
        self._standing = self._standing + ((row, self._moment()),)
        self._undone = ()

    def _close(self):
        """Close the trial that was opened last; give what stood when it was opened."""
        if not self._trials:
            raise NoTrial(0)
        opened = self._trials[-1]
        self._trials = self._trials[:-1]
        return opened
