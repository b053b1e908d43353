"""Benches: sheets that edits lead on, with all that stood before and what was taken back."""

from risingsheets.basics import is_integer, is_tuple_of, is_within
from risingsheets.bounds import BATCH, MAX_EDITS, MAX_NUMBER
from risingsheets.errors import BadBatch, BadCuts, BadPlan, HasRing, NothingToRedo, NothingToUndo, NoTrain, NoVersion
from risingsheets.errors import Rejected, SheetError, TooManyEdits, Unfit
from risingsheets.plans import plan_error, train_of
from risingsheets.rings import ring_of
from risingsheets.sheets import told_sheet
from risingsheets.supplements import following, supplement
from risingsheets.threads import cuts_error, threads_of


def called_threads(plan):
    """The calls of each thread, in order, as (number, name, minute)."""
    calls = {(train[0], place): (train[0],) + call for train in plan[1] for place, call in enumerate(train[2])}
    return {key: [calls[mark] for mark in marks] for key, marks in threads_of(plan).items()}


def carried(plan, cuts, newer):
    """What cuts of the plan become in a newer one: each goes to the first call behind it that is there, too."""
    elder_threads = called_threads(plan)
    threads = called_threads(newer)
    found = {}
    for kind, name, gap in cuts:
        places = {call: place for place, call in enumerate(threads.get((kind, name), []))}
        there = [places[call] for call in elder_threads[(kind, name)][gap:] if call in places]
        if len(there) > 0 and there[0] > 0:
            found[(kind, name, there[0])] = True
    return tuple(sorted(found))


def number_in(train):
    """The number of a train value; Unfit if it is not numbered."""
    if not is_tuple_of(train, 3) or not is_within(train[0], 1, MAX_NUMBER):
        raise Unfit()
    return train[0]


def train_with(plan, number):
    """The train of the plan with a number, any value; NoTrain if there is none."""
    # The kind comes first: True would be found where 1 is.
    if not is_integer(number):
        raise NoTrain(number)
    return train_of(plan, number)


def exchanged(plan, cuts, number, trains):
    """The plan with these trains instead of that of a number, and the carried cuts; BadPlan if it is none."""
    calendar, elder = plan
    ahead = [train for train in elder if train[0] < number]
    behind = [train for train in elder if train[0] > number]
    newer = (calendar, tuple(ahead + trains + behind))
    error = plan_error(newer)
    if error is not None:
        raise BadPlan(error)
    return (newer, carried(plan, cuts, newer))


def with_train(plan, cuts, train):
    """The plan and the cuts with one train more."""
    number = number_in(train)
    if number in [each[0] for each in plan[1]]:
        raise Unfit()
    return exchanged(plan, cuts, number, [train])


def without_train(plan, cuts, number):
    """The plan and the cuts with one train less."""
    return exchanged(plan, cuts, train_with(plan, number)[0], [])


def with_change(plan, cuts, train):
    """The plan and the cuts with a train in the place of the one with its number."""
    return exchanged(plan, cuts, train_with(plan, number_in(train))[0], [train])


def with_cuts(plan, _, cuts):
    """The plan and other cuts; BadCuts if these are none of it."""
    error = cuts_error(plan, cuts)
    if error is not None:
        raise BadCuts(error)
    return (plan, cuts)


EDITS = {"add": with_train, "drop": without_train, "change": with_change, "recut": with_cuts}


def edited(plan, cuts, word, argument):
    """The plan and the cuts that an edit makes of these, whatever rings stand."""
    edit = EDITS[word]
    return edit(plan, cuts, argument)


def is_edit(value):
    """Whether value is a pair of an edit's word and of its argument, whichever this is."""
    return is_tuple_of(value, 2) and isinstance(value[0], str) and value[0] in EDITS


def is_batch(value):
    """Whether value is a tuple of so many edits as can be made as one."""
    return isinstance(value, tuple) and len(value) <= BATCH and all([is_edit(item) for item in value])


class Bench:
    """A sheet, the sheets that stood ahead of it, and those that were taken back."""

    def __init__(self, plan, cuts):
        error = plan_error(plan)
        if error is not None:
            raise BadPlan(error)
        self._standing = (told_sheet(plan, cuts),)
        self._undone = ()
        self._trains = plan[1]

    def _stand(self, standing, undone):
        """Takes over sheets that stand, the first one at first, and sheets that were taken back, the last one last."""
        self._standing = standing
        self._undone = undone
        self._trains = standing[-1][0][1]

    def _lead(self, plan, cuts):
        """Leads the sheet on to a plan and its cuts, as one edit, and returns the new version."""
        ring = ring_of(plan, cuts)
        if ring is not None:
            raise HasRing(ring)
        if self.version == MAX_EDITS:
            raise TooManyEdits()
        self._stand(self._standing + (following(self.sheet, plan, cuts),), ())
        return self.version

    def _edit(self, word, argument):
        """Makes one edit, and returns the new version."""
        plan, cuts = edited(self.plan, self.cuts, word, argument)
        return self._lead(plan, cuts)

    @property
    def sheet(self):
        """The sheet that stands."""
        return self._standing[-1]

    @property
    def plan(self):
        """The plan of the sheet."""
        return self._standing[-1][0]

    @property
    def cuts(self):
        """The cuts of the sheet."""
        return self._standing[-1][1]

    @property
    def version(self):
        """How many edits stand."""
        return len(self._standing) - 1

    def __len__(self):
        return len(self._trains)

    def __getitem__(self, at):
        return train_with(self.plan, at)

    def __iter__(self):
        return iter(self._trains)

    def __eq__(self, other):
        return isinstance(other, Bench) and self.sheet == other.sheet

    def __ne__(self, other):
        return not isinstance(other, Bench) or self.sheet != other.sheet

    def supplement_since(self, version):
        """A supplement that leads from the sheet of a version to the one that stands."""
        return supplement(self.at(version), self.sheet)

    def add(self, train):
        """Puts in a train."""
        return self._edit("add", train)

    def drop(self, number):
        """Takes out the train with a number."""
        return self._edit("drop", number)

    def change(self, train):
        """Puts a train in the place of the one with its number."""
        return self._edit("change", train)

    def recut(self, cuts):
        """Takes other cuts."""
        return self._edit("recut", cuts)

    def batch(self, edits):
        """Makes several edits as one; what rings stand between them does not count."""
        if not is_batch(edits):
            raise BadBatch()
        plan, cuts = self.plan, self.cuts
        for index, (word, argument) in enumerate(edits):
            try:
                plan, cuts = edited(plan, cuts, word, argument)
            except SheetError:
                raise Rejected(index) from None
        return self._lead(plan, cuts)

    def undo(self):
        """Takes back the last edit that stands, and returns the version then."""
        if self.version == 0:
            raise NothingToUndo()
        self._stand(self._standing[:-1], self._undone + self._standing[-1:])
        return self.version

    def redo(self):
        """Does again the edit that was taken back last, and returns the version then."""
        if len(self._undone) == 0:
            raise NothingToRedo()
        self._stand(self._standing + self._undone[-1:], self._undone[:-1])
        return self.version

    def at(self, version):
        """The sheet when so many edits stood; NoVersion if not so many stand."""
        if not is_within(version, 0, self.version):
            raise NoVersion(version)
        return self._standing[version]

    def copy(self):
        """A bench of its own with the same sheets."""
        bench = Bench(self.plan, self.cuts)
        bench._stand(self._standing, self._undone)
        return bench

    def attempt(self, work):
        """What work returns for this bench; if work raises a SheetError, the bench is as it was ahead."""
        standing, undone = self._standing, self._undone
        try:
            return work(self)
        except SheetError:
            self._stand(standing, undone)
            raise
