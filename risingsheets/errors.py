"""The errors of the package; each keeps what it was made with."""


class SheetError(ValueError):
    """Whatever this package refuses."""


class BadPlan(SheetError):
    """A value is no plan; error is what plan_error tells of it."""

    def __init__(self, error):
        self.error = error


class BadCuts(SheetError):
    """A value is no tuple of cuts of the plan; error is what cuts_error tells of it."""

    def __init__(self, error):
        self.error = error


class BadText(SheetError):
    """A value is not the text that is asked for."""


class HasRing(SheetError):
    """The cuts let a ring stand."""

    def __init__(self, ring):
        self.ring = ring


class HasCuts(SheetError):
    """There are good cuts."""

    def __init__(self, found):
        self.found = found


class NeedsMore(SheetError):
    """No good cuts cost as little as that."""

    def __init__(self, most):
        self.most = most


class TooWide(SheetError):
    """Something at this place is too wide."""

    def __init__(self, place):
        self.place = place


class Unfit(SheetError):
    """What is asked can't be done with these arguments."""


class BadSupplement(SheetError):
    """A supplement does not belong to the sheet."""


class NoTrain(SheetError):
    """The plan has no train with the number given."""

    def __init__(self, given):
        self.given = given


class NoStation(SheetError):
    """The plan has no station of the name given."""

    def __init__(self, given):
        self.given = given


class BadBatch(SheetError):
    """A value is no batch of edits."""


class Rejected(SheetError):
    """The edit at this place of a batch was refused."""

    def __init__(self, index):
        self.index = index


class TooManyEdits(SheetError):
    """As many edits stand as may stand."""


class NothingToUndo(SheetError):
    """No edit stands."""


class NothingToRedo(SheetError):
    """No edit was taken back that could be done again."""


class NoVersion(SheetError):
    """The bench has no version as given."""

    def __init__(self, given):
        self.given = given
