"""Part L: benches, their edits, and what can be taken back."""

import unittest
from random import Random

from risingsheets import errors
from risingsheets.benches import Bench
from risingsheets.bounds import MAX_EDITS
from risingsheets.errors import (
    BadBatch, BadCuts, BadPlan, HasRing, NothingToRedo, NothingToUndo, NoTrain, NoVersion, Rejected, SheetError,
    TooManyEdits, Unfit,
)
from risingsheets.plans import plan_error
from risingsheets.rings import lets_stand, ring_error
from risingsheets.sheets import sheet_error, told_sheet
from risingsheets.supplements import following, supplement, supplied
from risingsheets.threads import cuts_error, thread
from tests.drawn import CALENDAR, NAMES, cuts_of_plan, drawn_cuts, plan_of, small_plans
from tests.great import GREAT_PLANS, in_time
from tests.reference import lets_none_stand
from tests.values import GREAT, ODD, fresh, nested, plain, put

WEEK = tuple(range(7))
THERE = (1, WEEK, (("abel", 425), ("bron", 440)))
BACK = (3, WEEK, (("bron", 430), ("abel", 450)))
LINE = ((0, 7, ()), (THERE,))
BOTH = ((0, 7, ()), (THERE, BACK))
CUT = (("train", 3, 1),)
EMPTY = ((0, 7, ()), ())

# Values that are no train, although some of them come near to one.
NO_TRAINS = [value for value in ODD if not (isinstance(value, tuple) and len(value) == 3)] + [
    (True, WEEK, ()), (0, WEEK, ()), (10000, WEEK, ()), ("2", WEEK, ()), (None, WEEK, ()), (GREAT, (), ()),
    ((2,), (), ()),
    list(BACK), BACK[:2], BACK + (None,), (2.0, WEEK, ())]


def carried_with(plan, cuts, newer):
    """What cuts of a plan become in a newer one, by [L1]."""
    def call_of(each, mark):
        calls = [calls for number, _, calls in each[1] if number == mark[0]][0]
        return (mark[0], *calls[mark[1]])
    told = set()
    for kind, name, gap in cuts:
        there = [call_of(newer, mark) for mark in thread(newer, kind, name)]
        for mark in thread(plan, kind, name)[gap:]:
            call = call_of(plan, mark)
            if call in there:
                if there.index(call) > 0:
                    told.add((kind, name, there.index(call)))
                break
    return tuple(sorted(told))


def numbers_of(plan):
    return [number for number, _, _ in plan[1]]


def edit_with(plan, cuts, word, argument):
    """The plan and the cuts that an edit makes, by [L3]; it raises what this tells ahead of rings."""
    if word == "recut":
        if cuts_error(plan, argument) is not None:
            raise BadCuts(cuts_error(plan, argument))
        return plan, argument
    if word == "drop":
        if type(argument) is not int or argument not in numbers_of(plan):
            raise NoTrain(argument)
        newer = (plan[0], tuple(train for train in plan[1] if train[0] != argument))
        return newer, carried_with(plan, cuts, newer)
    if type(argument) is not tuple or len(argument) != 3 or type(argument[0]) is not int:
        raise Unfit()
    if not 1 <= argument[0] <= 9999 or (word == "add" and argument[0] in numbers_of(plan)):
        raise Unfit()
    if word == "change" and argument[0] not in numbers_of(plan):
        raise NoTrain(argument[0])
    others = [train for train in plan[1] if train[0] != argument[0]]
    newer = (plan[0], tuple(sorted(others + [argument], key=lambda train: train[0])))
    if plan_error(newer) is not None:
        raise BadPlan(plan_error(newer))
    return newer, carried_with(plan, cuts, newer)


class Model:
    """A bench told from the document's words, with lists of sheets."""

    def __init__(self, plan, cuts):
        self.stood = [told_sheet(plan, cuts)]
        self.back = []

    def step(self, word, argument=None):
        sheet = self.stood[-1]
        if word == "undo":
            if len(self.stood) == 1:
                raise NothingToUndo()
            self.back.append(self.stood.pop())
        elif word == "redo":
            if not self.back:
                raise NothingToRedo()
            self.stood.append(self.back.pop())
        else:
            plan, cuts = sheet[:2]
            for index, (each, more) in enumerate(argument if word == "batch" else [(word, argument)]):
                try:
                    plan, cuts = edit_with(plan, cuts, each, more)
                except SheetError:
                    if word == "batch":
                        raise Rejected(index)
                    raise
            if not lets_none_stand(plan, cuts):
                raise HasRing(None)
            if len(self.stood) - 1 == 40:
                raise TooManyEdits()
            self.stood.append(following(sheet, plan, cuts))
            self.back = []
        return len(self.stood) - 1


def state(bench):
    """All that a bench tells, what was taken back too."""
    bench = bench.copy()
    stood = [bench.at(version) for version in range(bench.version + 1)]
    back = []
    while True:
        try:
            bench.redo()
        except NothingToRedo:
            return repr((stood, back))
        back.append(bench.sheet)


def outcome(function, *arguments):
    """What a call returns, or the error that it raises; of rings alone that there is one."""
    try:
        return function(*arguments)
    except SheetError as error:
        return (type(error).__name__, None if isinstance(error, HasRing) else repr(vars(error)))


def drawn_train(drawn, numbers):
    """A train, often a right one, with one of the numbers."""
    minutes = sorted(drawn.sample(range(60), drawn.randint(1, 3)))
    if drawn.randrange(12) == 0:
        minutes = minutes[::-1] + minutes[:1]
    days = drawn.choice([(0,), (0, 7), (0, 7), (7, 0)] if drawn.randrange(9) == 0 else [(0,), (0, 7)])
    return (drawn.choice(numbers), days, tuple((drawn.choice(NAMES[:4]), minute) for minute in minutes))


def drawn_edit(drawn, plan):
    """A word of an edit and an argument, often a right one."""
    word = drawn.choice(["add", "add", "drop", "change", "change", "recut"])
    numbers = numbers_of(plan) + [drawn.randint(1, 60)]
    if word == "recut":
        return word, drawn.choice([(), cuts_of_plan(plan), drawn_cuts(drawn.randrange(99), plan, 7),
                                   (("train", 1, 9),)])
    if word == "drop":
        return word, drawn.choice(numbers)
    return word, drawn_train(drawn, numbers if word == "change" else [drawn.randint(1, 60)] + numbers[-2:])


def drawn_step(drawn, plan):
    """A word of any step and its argument, None if it has none."""
    word = drawn.choice(["edit", "edit", "edit", "batch", "undo", "redo"])
    if word == "edit":
        return drawn_edit(drawn, plan)
    if word == "batch":
        return word, tuple(drawn_edit(drawn, plan) for _ in range(drawn.randrange(4)))
    return word, None


class Benches(unittest.TestCase):

    def refuses(self, bench, kind, function, /, *arguments, **kept):
        """Checks that a call raises just this error with what it keeps, and that the bench is left as it was."""
        before = state(bench)
        with self.subTest(arguments=repr(arguments)[:200]), self.assertRaises(kind) as caught:
            function(*arguments)
        self.assertIs(type(caught.exception), kind)
        self.assertEqual(repr(vars(caught.exception)), repr(kept))
        self.assertIsInstance(caught.exception, SheetError)
        self.assertIsInstance(caught.exception, ValueError)
        self.assertEqual(state(bench), before)

    def has_ring(self, bench, plan, cuts, function, *arguments):
        """Checks that a call raises HasRing with a ring that these cuts let stand."""
        before = state(bench)
        with self.subTest(arguments=repr(arguments)[:200]), self.assertRaises(HasRing) as caught:
            function(*arguments)
        self.assertIsNone(ring_error(plan, caught.exception.ring))
        self.assertIs(lets_stand(plan, cuts, caught.exception.ring), True)
        self.assertEqual(state(bench), before)


class TestMaking(Benches):

    def test_right_plans_and_cuts(self):
        for seed, plan in enumerate(small_plans(30, 7) + [EMPTY]):
            for cuts in (cuts_of_plan(plan), drawn_cuts(seed, plan, 8)):
                if lets_none_stand(plan, cuts):
                    bench = Bench(plan, cuts)
                    self.assertEqual((bench.plan, bench.cuts, bench.version), (plan, cuts, 0))
                    self.assertEqual(bench.sheet, told_sheet(plan, cuts))

    def test_by_place_and_by_name(self):
        self.assertEqual(Bench(cuts=CUT, plan=BOTH), Bench(BOTH, CUT))

    def test_refusals_in_their_order(self):
        for value in ODD + (list(LINE), put(LINE, (1, 0, 2), ())):
            for cuts in ((), None, (("train", 1, 9),), value):
                with self.assertRaises(BadPlan) as caught:
                    Bench(value, cuts)
                self.assertEqual(repr(caught.exception.error), repr(plan_error(value)))
            if value != ():
                for plan in (LINE, BOTH):
                    with self.assertRaises(BadCuts) as wrong:
                        Bench(plan, value)
                    self.assertEqual(repr(wrong.exception.error), repr(cuts_error(plan, value)))
        for cuts in ((("train", 3, 2),), (("train", 1, True),), CUT * 2, [CUT[0]],
                     (("train", 3, 1), ("station", "abel", 1))):
            with self.assertRaises(BadCuts) as wrong:
                Bench(BOTH, cuts)
            self.assertEqual(wrong.exception.error, cuts_error(BOTH, cuts))
        with self.assertRaises(HasRing) as ring:
            Bench(BOTH, ())
        self.assertIsNone(ring_error(BOTH, ring.exception.ring))
        self.assertTrue(lets_stand(BOTH, (), ring.exception.ring))


class TestAnswers(Benches):

    def test_properties_can_only_be_read(self):
        bench = Bench(BOTH, CUT)
        for name in ("plan", "cuts", "sheet", "version"):
            self.assertIsInstance(vars(Bench)[name], property)
            with self.assertRaises(AttributeError):
                setattr(bench, name, getattr(bench, name))
            with self.assertRaises(AttributeError):
                delattr(bench, name)

    def test_trains(self):
        for plan in small_plans(12, 7) + [EMPTY]:
            bench = Bench(plan, cuts_of_plan(plan))
            self.assertEqual(len(bench), len(plan[1]))
            self.assertEqual(list(bench), list(plan[1]))
            self.assertEqual(list(iter(bench)), list(plan[1]))
            for train in plan[1]:
                self.assertEqual(bench[train[0]], train)

    def test_no_train(self):
        bench = Bench(BOTH, CUT)
        for value in ODD + (0, 2, 4, "1", (1,), [3], {1: 3}, 10000, 1.5, -1, "abel", THERE):
            with self.assertRaises(NoTrain) as caught:
                bench[value]
            self.assertIs(caught.exception.given, value)

    def test_trains_behind_edits(self):
        bench = Bench(LINE, ())
        bench.add((2, WEEK, (("abel", 500),)))
        self.assertEqual((len(bench), list(bench), bench[2]),
                         (2, [THERE, (2, WEEK, (("abel", 500),))], (2, WEEK, (("abel", 500),))))
        bench.drop(1)
        self.assertEqual((len(bench), list(bench)), (1, [(2, WEEK, (("abel", 500),))]))
        bench.undo()
        self.assertEqual((len(bench), bench[1]), (2, THERE))
        bench.redo()
        self.assertEqual((len(bench), list(bench)), (1, [(2, WEEK, (("abel", 500),))]))

    def test_iterations_go_on_over_the_trains_that_there_were(self):
        bench = Bench(BOTH, CUT)
        met = []
        for train in bench:
            met.append(train)
            bench.drop(train[0])
        self.assertEqual((met, len(bench)), ([THERE, BACK], 0))

    def test_equal_benches(self):
        one, other = Bench(BOTH, CUT), Bench(fresh(BOTH), fresh(CUT))
        self.assertIs(one == other, True)
        self.assertIs(one != other, False)
        other.add((9, WEEK, (("abel", 900),)))
        self.assertIs(one == other, False)
        self.assertIs(one != other, True)
        other.drop(9)
        # How it came to its sheet makes no difference.
        self.assertIs(one == other, True)
        self.assertIs(one != other, False)
        self.assertIs(one == Bench(BOTH, (("train", 1, 1),)), False)
        self.assertIs(one == one, True)
        self.assertIs(one != one, False)

    def test_sheets_of_unlike_orders(self):
        plan = plan_of((("abel", 5),), (("bron", 6),))
        one, other = Bench(plan, ()), Bench((CALENDAR, plan[1][1:]), ())
        other.add(plan[1][0])
        self.assertEqual(other.sheet[:2], one.sheet[:2])
        self.assertIs(one == other, one.sheet == other.sheet)

    def test_other_values(self):
        bench = Bench(BOTH, CUT)
        for value in ODD + (BOTH, bench.sheet, Bench, "Bench", [bench], (bench,)):
            self.assertIs(bench == value, False)
            self.assertIs(bench != value, True)
            self.assertIs(value == bench, False)
            self.assertIs(value != bench, True)


class TestEdits(Benches):

    def test_add(self):
        bench = Bench(LINE, ())
        for value in NO_TRAINS:
            self.refuses(bench, Unfit, bench.add, value)
        self.refuses(bench, Unfit, bench.add, THERE)
        self.refuses(bench, Unfit, bench.add, (1, None, None))
        self.refuses(bench, BadPlan, bench.add, (2, WEEK, ()), error=("calls", 1))
        self.refuses(bench, BadPlan, bench.add, (2, (), (("abel", 5),)), error=("days", 1))
        self.refuses(bench, BadPlan, bench.add, (2, (7,), (("abel", 5),)), error=("days", 1))
        self.refuses(bench, BadPlan, bench.add, (2, WEEK, (("abel", 5), ("Abel", 6))), error=("call", 1, 1))
        self.refuses(bench, BadPlan, bench.add, (2, WEEK, (("abel", 5), ("bron", 5))), error=("rise", 1, 1))
        self.refuses(bench, BadPlan, bench.add, (2, None, None), error=("days", 1))
        self.refuses(bench, BadPlan, bench.add, (9999, WEEK, tuple((name, k) for k, name in enumerate(NAMES))),
                     error="stations")
        self.refuses(bench, BadPlan, bench.add, (2, WEEK, tuple(("abel", k) for k in range(199))), error="many")
        self.has_ring(bench, BOTH, (), bench.add, BACK)
        self.assertEqual(bench.add((2, WEEK, (("abel", 500),))), 1)
        self.assertEqual(bench.add(train=(9999, (0,), (("abel", 501),))), 2)
        self.assertEqual(numbers_of(bench.plan), [1, 2, 9999])

    def test_add_comes_to_its_place(self):
        middle = Bench((CALENDAR, tuple((number, (0,), (("abel", number),)) for number in (10, 20, 30))), ())
        for number in (25, 5, 35, 15):
            middle.add((number, (0,), (("abel", number),)))
        self.assertEqual(numbers_of(middle.plan), [5, 10, 15, 20, 25, 30, 35])
        self.refuses(middle, BadPlan, middle.add, (12, (0,), ()), error=("calls", 2))
        self.refuses(middle, BadPlan, middle.add, (36, (0,), ()), error=("calls", 7))
        full = Bench((CALENDAR, tuple((2 * k, (0,), (("abel", k),)) for k in range(1, 25))), ())
        for number in (1, 7, 60):
            self.refuses(full, BadPlan, full.add, (number, (0,), (("abel", 5),)), error="trains")
        self.refuses(full, BadPlan, full.add, (1, None, None), error="trains")
        self.refuses(full, Unfit, full.add, (2, (0,), (("abel", 5),)))

    def test_drop(self):
        bench = Bench(BOTH, CUT)
        for value in ODD + (0, 2, "1", (1,), [1], THERE, 1.5):
            self.refuses(bench, NoTrain, bench.drop, value, given=value)
        self.assertEqual(bench.drop(1), 1)
        self.assertEqual((bench.plan, bench.cuts), ((BOTH[0], (BACK,)), CUT))
        self.refuses(bench, NoTrain, bench.drop, 1, given=1)
        self.assertEqual(bench.drop(number=3), 2)
        self.assertEqual(bench.sheet, (EMPTY, (), (), ()))

    def test_change(self):
        bench = Bench(BOTH, CUT)
        for value in NO_TRAINS:
            self.refuses(bench, Unfit, bench.change, value)
        self.refuses(bench, NoTrain, bench.change, (2, WEEK, (("abel", 5),)), given=2)
        self.refuses(bench, NoTrain, bench.change, (2, None, None), given=2)
        self.refuses(bench, NoTrain, bench.change, (9999, WEEK, ()), given=9999)
        self.refuses(bench, BadPlan, bench.change, (1, WEEK, ()), error=("calls", 0))
        self.refuses(bench, BadPlan, bench.change, (3, None, ()), error=("days", 1))
        self.refuses(bench, BadPlan, bench.change, (3, WEEK, tuple(("abel", k) for k in range(199))), error="many")
        self.assertEqual(bench.change((1, (0,), THERE[2])), 1)
        self.assertEqual((bench[1], bench[3], bench.cuts), ((1, (0,), THERE[2]), BACK, CUT))
        self.assertEqual(bench.change(train=THERE), 2)
        other = (3, WEEK, (("bron", 430), ("abel", 451)))
        self.has_ring(bench, (BOTH[0], (THERE, other)), (), bench.change, other)

    def test_recut(self):
        bench = Bench(BOTH, CUT)
        for value in ODD + ([CUT[0]], CUT * 2, (("train", 3, 2),), (("train", 3, True),), (("train", 2, 1),), None):
            if value != ():
                self.refuses(bench, BadCuts, bench.recut, value, error=cuts_error(BOTH, value))
        self.has_ring(bench, BOTH, (), bench.recut, ())
        self.assertEqual(bench.recut((("station", "abel", 1),)), 1)
        self.assertEqual((bench.plan, bench.cuts), (BOTH, (("station", "abel", 1),)))
        self.assertEqual(bench.recut(cuts=cuts_of_plan(BOTH)), 2)
        self.assertEqual(bench.cuts, cuts_of_plan(BOTH))

    def test_an_edit_that_leaves_all_as_it_was(self):
        bench = Bench(BOTH, CUT)
        before = bench.sheet
        self.assertEqual([bench.recut(CUT), bench.change(BACK), bench.batch(())], [1, 2, 3])
        self.assertEqual([bench.at(version) for version in range(4)], [before] * 4)

    def test_the_sheet_is_what_following_tells(self):
        led = 0
        for seed, plan in enumerate(small_plans(40, 8)):
            drawn = Random(seed)
            bench = Bench(plan, cuts_of_plan(plan))
            for _ in range(8):
                sheet = bench.sheet
                word, argument = drawn_edit(drawn, bench.plan)
                try:
                    newer = edit_with(*sheet[:2], word, argument)
                except SheetError:
                    continue
                if lets_none_stand(*newer):
                    getattr(bench, word)(argument)
                    self.assertEqual(bench.sheet, following(sheet, *newer))
                    self.assertIsNone(sheet_error(bench.sheet))
                    led += 1
        self.assertGreater(led, 60)

    def test_forty_edits_and_one_more(self):
        bench = Bench(LINE, ())
        sheets = [bench.sheet]
        for number in range(MAX_EDITS):
            self.assertEqual(bench.recut((("train", 1, 1),) if number % 2 == 0 else ()), number + 1)
            sheets.append(bench.sheet)
        self.assertEqual(bench.version, 40)
        self.refuses(bench, TooManyEdits, bench.recut, ())
        self.refuses(bench, TooManyEdits, bench.batch, ())
        self.refuses(bench, TooManyEdits, bench.drop, 1)
        self.refuses(bench, TooManyEdits, bench.change, THERE)
        self.refuses(bench, TooManyEdits, bench.add, (2, WEEK, (("abel", 9),)))
        # All else is told ahead of it.
        self.has_ring(bench, BOTH, (), bench.add, BACK)
        self.refuses(bench, Unfit, bench.add, THERE)
        self.refuses(bench, NoTrain, bench.drop, 2, given=2)
        self.refuses(bench, BadCuts, bench.recut, None, error="form")
        self.refuses(bench, BadPlan, bench.change, (1, WEEK, ()), error=("calls", 0))
        self.refuses(bench, Rejected, bench.batch, (("drop", 2),), index=0)
        self.refuses(bench, BadBatch, bench.batch, None)
        self.assertEqual([bench.at(version) for version in range(41)], sheets)
        self.assertEqual(bench.undo(), 39)
        self.assertEqual(bench.redo(), 40)
        self.assertEqual(bench.undo(), 39)
        self.assertEqual(bench.drop(1), 40)
        self.refuses(bench, TooManyEdits, bench.recut, ())


class TestCarriedCuts(Benches):

    def test_calls_more_and_fewer(self):
        bench = Bench(BOTH, CUT)
        bench.change((3, WEEK, (("abel", 400), ("bron", 430), ("abel", 450))))
        self.assertEqual(bench.cuts, (("train", 3, 2),))
        bench.change(BACK)
        self.assertEqual(bench.cuts, CUT)
        bench.change((3, WEEK, (("abel", 450), ("bron", 460))))
        # The call behind the cut is the first one now.
        self.assertEqual(bench.cuts, ())
        bench.undo()
        bench.change((3, WEEK, (("bron", 445),)))
        self.assertEqual(bench.cuts, ())

    def test_the_first_call_behind_that_is_there(self):
        calls = (("abel", 10), ("bron", 20), ("cole", 30), ("dell", 40), ("elm", 50))
        for cut, left, wanted in ((2, (0, 1, 3, 4), 2), (2, (0, 1, 4), 2), (2, (0, 3), 1), (2, (2, 3), None),
                                  (2, (3,), None),
                                  (4, (0, 1, 2, 3), None), (1, (0, 4), 1), (1, (1, 2), None), (3, (1, 2, 3), 2),
                                  (2, (0, 1), None)):
            bench = Bench(plan_of(calls), (("train", 1, cut),))
            bench.change((1, (0,), tuple(calls[place] for place in left)))
            self.assertEqual(bench.cuts, (("train", 1, wanted),) if wanted else ())

    def test_a_call_at_another_minute_or_station_is_another_one(self):
        bench = Bench(plan_of((("abel", 10), ("bron", 20), ("cole", 30))), (("train", 1, 1),))
        bench.change((1, (0,), (("abel", 10), ("bron", 21), ("cole", 30))))
        self.assertEqual(bench.cuts, (("train", 1, 2),))
        bench.undo()
        bench.change((1, (0,), (("abel", 10), ("dell", 20), ("cole", 30))))
        self.assertEqual(bench.cuts, (("train", 1, 2),))
        bench.undo()
        bench.change((1, (7,), (("abel", 10), ("bron", 20), ("cole", 30))))
        self.assertEqual(bench.cuts, (("train", 1, 1),))

    def test_stations(self):
        plan = plan_of((("abel", 10),), (("abel", 20),), (("abel", 30),), (("abel", 40),))
        for cuts, word, argument, wanted in (
                ((1, 2, 3), "drop", 1, (1, 2)), ((1, 2, 3), "drop", 4, (1, 2)), ((1, 3), "drop", 2, (1, 2)),
                ((1, 2), "drop", 2, (1,)),
                ((3,), "drop", 4, ()), ((1,), "drop", 1, ()), ((2,), "add", (9, (0,), (("abel", 5),)), (3,)),
                ((2,), "add", (9, (0,), (("abel", 25),)), (3,)), ((2,), "add", (9, (0,), (("abel", 30),)), (2,)),
                ((3,), "add", (9, (0,), (("abel", 35),)), (4,)), ((2,), "add", (9, (0,), (("abel", 50),)), (2,)),
                ((2,), "change", (3, (0,), (("abel", 31),)), (3,)), ((2,), "change", (3, (0,), (("abel", 50),)), (2,)),
                ((3,), "change", (4, (0,), (("bron", 40),)), ()),
                ((1, 2, 3), "change", (2, (0,), (("abel", 45),)), (1, 2))):
            bench = Bench(plan, tuple(("station", "abel", gap) for gap in cuts))
            getattr(bench, word)(argument)
            self.assertEqual(bench.cuts, tuple(("station", "abel", gap) for gap in wanted), (cuts, word, argument))

    def test_stations_and_trains_that_go(self):
        plan = plan_of((("abel", 10), ("bron", 20)), (("abel", 15),), (("bron", 25),))
        bench = Bench(plan, cuts_of_plan(plan))
        bench.drop(1)
        self.assertEqual(bench.cuts, ())
        bench.undo()
        bench.drop(3)
        self.assertEqual(bench.cuts, (("station", "abel", 1), ("train", 1, 1)))

    def test_drawn_edits_step_by_step(self):
        seen = 0
        for seed, plan in enumerate(small_plans(80, 9)):
            drawn = Random(seed)
            cuts = cuts_of_plan(plan) if seed % 2 else drawn_cuts(seed, plan, 7)
            if not lets_none_stand(plan, cuts):
                continue
            bench = Bench(plan, cuts)
            for _ in range(6):
                word, argument = drawn_edit(drawn, bench.plan)
                elder = bench.sheet
                try:
                    getattr(bench, word)(argument)
                except SheetError:
                    continue
                if word != "recut":
                    self.assertEqual(bench.cuts, carried_with(*elder[:2], bench.plan))
                    seen += len(bench.cuts) != len(elder[1])
        self.assertGreater(seen, 60)

    def test_when_calls_are_left_out_good_cuts_stay_good(self):
        for seed, plan in enumerate(small_plans(40, 9)):
            cuts = drawn_cuts(seed, plan, 8)
            if lets_none_stand(plan, cuts):
                for number, days, calls in plan[1]:
                    for place in range(len(calls)):
                        bench = Bench(plan, cuts)
                        if len(calls) > 1:
                            bench.change((number, days, calls[:place] + calls[place + 1:]))
                            self.assertEqual(bench.version, 1)
                    bench.drop(number)
                    self.assertEqual(bench.cuts, carried_with(*bench.at(bench.version - 1)[:2], bench.plan))


class TestHistory(Benches):

    def test_undo_and_redo(self):
        bench = Bench(LINE, ())
        self.refuses(bench, NothingToUndo, bench.undo)
        self.refuses(bench, NothingToRedo, bench.redo)
        bench.batch((("add", BACK), ("recut", CUT)))
        bench.add((5, WEEK, (("cole", 5),)))
        bench.drop(1)
        sheets = [bench.at(version) for version in range(4)]
        self.assertEqual([bench.undo(), bench.sheet, bench.undo(), bench.sheet, bench.undo(), bench.sheet],
                         [2, sheets[2], 1, sheets[1], 0, sheets[0]])
        self.refuses(bench, NothingToUndo, bench.undo)
        self.assertEqual([bench.redo(), bench.sheet, bench.redo(), bench.sheet, bench.redo(), bench.sheet],
                         [1, sheets[1], 2, sheets[2], 3, sheets[3]])
        self.refuses(bench, NothingToRedo, bench.redo)
        self.assertEqual([bench.undo(), bench.redo(), bench.sheet], [2, 3, sheets[3]])

    def test_an_edit_forgets_what_was_taken_back(self):
        bench = Bench(LINE, ())
        for number in (2, 3, 4):
            bench.add((number, WEEK, (("abel", number),)))
        bench.undo()
        bench.undo()
        self.assertEqual(bench.version, 1)
        # What is refused is no edit.
        self.refuses(bench, Unfit, bench.add, THERE)
        self.assertEqual([bench.redo(), bench.undo()], [2, 1])
        self.assertEqual(bench.batch(()), 2)
        self.refuses(bench, NothingToRedo, bench.redo)
        self.assertEqual(bench.sheet, bench.at(1))

    def test_at(self):
        bench = Bench(LINE, ())
        sheets = [bench.sheet]
        for number in (2, 3, 4):
            bench.add((number, WEEK, (("abel", number),)))
            sheets.append(bench.sheet)
        self.assertEqual([bench.at(version) for version in range(4)], sheets)
        self.assertEqual(bench.at(version=2), sheets[2])
        odd = [value for value in ODD if value not in (0, 1, 2, 3) or isinstance(value, bool)]
        for value in odd + [4, -1, -4, 40, GREAT, "1", (1,), [1], None, 1.0]:
            self.refuses(bench, NoVersion, bench.at, value, given=value)
            self.refuses(bench, NoVersion, bench.supplement_since, value, given=value)
        bench.undo()
        self.refuses(bench, NoVersion, bench.at, 3, given=3)
        self.refuses(bench, NoVersion, bench.supplement_since, 3, given=3)
        self.assertEqual(bench.at(2), sheets[2])

    def test_supplements(self):
        bench = Bench(LINE, ())
        bench.batch((("add", BACK), ("recut", CUT)))
        bench.add((2, WEEK, (("cole", 5), ("abel", 427))))
        bench.drop(3)
        for version in range(4):
            told = bench.supplement_since(version)
            self.assertEqual(told, supplement(bench.at(version), bench.sheet))
            self.assertEqual(supplied(bench.at(version), told), bench.sheet)
        self.assertEqual(bench.supplement_since(version=3)[1:], ((), (), (), ((), ()), ((), ())))
        bench.undo()
        self.assertEqual(supplied(bench.at(0), bench.supplement_since(0)), bench.sheet)

    def test_drawn_steps_beside_a_model(self):
        seen = {}
        for seed, plan in enumerate(small_plans(60, 7)):
            drawn = Random(seed)
            bench, model = Bench(plan, cuts_of_plan(plan)), Model(plan, cuts_of_plan(plan))
            for _ in range(25):
                word, argument = drawn_step(drawn, bench.plan)
                arguments = () if word in ("undo", "redo") else (argument,)
                before = repr(argument)
                told, wanted = outcome(getattr(bench, word), *arguments), outcome(model.step, word, *arguments)
                self.assertEqual(told, wanted)
                self.assertEqual(repr(argument), before)
                name = told[0] if isinstance(told, tuple) else word
                seen[name] = seen.get(name, 0) + 1
                self.assertEqual([bench.at(version) for version in range(bench.version + 1)], model.stood)
                self.assertEqual((bench.plan, bench.cuts, bench.version), (*model.stood[-1][:2], len(model.stood) - 1))
                self.assertTrue(plain(bench.sheet))
        for name in ("add", "drop", "change", "recut", "batch", "undo", "redo", "Unfit", "NoTrain", "BadPlan",
                     "BadCuts",
                     "HasRing", "Rejected", "NothingToUndo", "NothingToRedo"):
            self.assertGreater(seen.get(name, 0), 9, name)


class TestBatches(Benches):

    def test_no_batches(self):
        bench = Bench(BOTH, CUT)
        odd = [value for value in ODD if value != ()]
        drop = ("drop", 1)
        for value in odd + [[drop], drop, (drop,) * 13, (list(drop),), (("drop",),), (("drop", 1, 1),), (("Drop", 1),),
                            ((1, "drop"),),
                            (("undo", None),), (("batch", ()),), (("copy", 1),), (("", 1),), ((None, 1),),
                            (drop, None), (None, drop),
                            ((["drop"], 1),), (({}, 1),), ((("drop",), 1),), (nested(15),), {"drop": 1}, "drop"]:
            self.refuses(bench, BadBatch, bench.batch, value)
        # A batch that is none is told ahead of an edit that is refused.
        self.refuses(bench, BadBatch, bench.batch, (("drop", 9), ("dropped", 1)))
        self.refuses(bench, BadBatch, bench.batch, (("drop", 9),) * 13)

    def test_empty_and_longest(self):
        bench = Bench(LINE, ())
        self.assertEqual(bench.batch(()), 1)
        self.assertEqual(bench.sheet, bench.at(0))
        edits = tuple(("add", (number, WEEK, (("abel", 400 + number),))) for number in range(2, 14))
        self.assertEqual(len(edits), 12)
        self.assertEqual(bench.batch(edits=edits), 2)
        self.assertEqual(numbers_of(bench.plan), list(range(1, 14)))
        self.refuses(bench, BadBatch, bench.batch, edits + (("drop", 2),))
        self.assertEqual(bench.undo(), 1)
        self.assertEqual(bench.plan, LINE)

    def test_each_word(self):
        bench = Bench(BOTH, CUT)
        other = (1, (0,), THERE[2])
        self.assertEqual(bench.batch((("drop", 3), ("change", other), ("add", BACK),
                                      ("recut", (("station", "bron", 1),)))), 1)
        self.assertEqual((bench.plan, bench.cuts), ((BOTH[0], (other, BACK)), (("station", "bron", 1),)))
        self.assertEqual(bench.sheet, following(bench.at(0), bench.plan, bench.cuts))

    def test_the_place_of_what_is_rejected(self):
        bench = Bench(BOTH, CUT)
        fine = ("change", THERE)
        for wrong in (("drop", 9), ("drop", True), ("drop", [3]), ("add", THERE), ("add", None), ("add", (2, WEEK, ())),
                      ("change", (2, WEEK, (("abel", 5),))), ("change", (3, WEEK, ())), ("change", {}), ("recut", None),
                      ("recut", (("train", 3, 2),)), ("recut", [CUT[0]])):
            for place in range(12):
                self.refuses(bench, Rejected, bench.batch, (fine,) * place + (wrong,), index=place)
            self.refuses(bench, Rejected, bench.batch, (wrong, wrong, fine), index=0)
            self.refuses(bench, Rejected, bench.batch, (fine, wrong, fine, wrong), index=1)
        self.refuses(bench, Rejected, bench.batch, (("drop", 3), ("recut", CUT)), index=1)
        self.refuses(bench, Rejected, bench.batch, (("drop", 3), ("drop", 3)), index=1)
        self.refuses(bench, Rejected, bench.batch, (("add", (2, WEEK, (("abel", 5),))),
                                                    ("add", (2, WEEK, (("abel", 6),)))), index=1)

    def test_rings_between_the_edits_and_at_the_end(self):
        bench = Bench(LINE, ())
        self.has_ring(bench, BOTH, (), bench.batch, (("add", BACK),))
        self.has_ring(bench, BOTH, (), bench.batch, (("add", BACK), ("recut", CUT), ("recut", ())))
        self.assertEqual(bench.batch((("add", BACK), ("drop", 1))), 1)
        self.assertEqual(bench.plan, (LINE[0], (BACK,)))
        bench.undo()
        self.assertEqual(bench.batch((("add", BACK), ("recut", (("train", 3, 1),)))), 1)
        # What is rejected is told ahead of a ring at the end.
        self.refuses(bench, Rejected, bench.batch, (("recut", ()), ("drop", 9)), index=1)

    def test_cuts_are_carried_step_by_step(self):
        calls = (("abel", 10), ("bron", 20), ("cole", 30))
        bench = Bench(plan_of(calls), (("train", 1, 1),))
        # With the call at bron gone the cut is at cole; it stays there when bron comes again.
        bench.batch((("change", (1, (0,), calls[:1] + calls[2:])), ("change", (1, (0,), calls))))
        self.assertEqual((bench.plan, bench.cuts), (plan_of(calls), (("train", 1, 2),)))
        bench.batch((("drop", 1), ("add", plan_of(calls)[1][0])))
        self.assertEqual((bench.plan, bench.cuts), (plan_of(calls), ()))

    def test_the_sheet_is_led_on_once(self):
        for seed, plan in enumerate(small_plans(40, 7)):
            drawn = Random(seed)
            bench = Bench(plan, cuts_of_plan(plan))
            edits = tuple(drawn_edit(drawn, plan) for _ in range(3))
            try:
                newer = sheet = bench.sheet
                for word, argument in edits:
                    newer = edit_with(*newer[:2], word, argument)
            except SheetError:
                continue
            if lets_none_stand(*newer):
                bench.batch(edits)
                self.assertEqual(bench.sheet, following(sheet, *newer))


class TestCopies(Benches):

    def test_copies_go_their_own_way(self):
        bench = Bench(LINE, ())
        for number in (2, 3, 4):
            bench.add((number, WEEK, (("abel", number),)))
        bench.undo()
        other = bench.copy()
        self.assertIs(type(other), Bench)
        self.assertEqual((other, other.version, state(other)), (bench, 2, state(bench)))
        before = state(bench)
        other.redo()
        other.drop(1)
        self.assertEqual(state(bench), before)
        self.assertEqual(other.version, 4)
        self.assertEqual([other.at(version) for version in range(3)], [bench.at(version) for version in range(3)])
        later = state(other)
        self.assertEqual([bench.redo(), bench.undo(), bench.undo(), bench.undo()], [3, 2, 1, 0])
        bench.recut((("train", 1, 1),))
        self.assertEqual(state(other), later)
        self.assertEqual([other.undo(), other.undo(), other.redo()], [3, 2, 3])

    def test_a_copy_of_a_bench_with_as_many_edits_as_can_be(self):
        bench = Bench(LINE, ())
        for _ in range(40):
            bench.batch(())
        self.refuses(bench, TooManyEdits, bench.copy().batch, ())
        bench.undo()
        self.assertEqual(bench.copy().redo(), 40)


class TestAttempts(Benches):

    def test_what_work_returns(self):
        bench = Bench(LINE, ())
        for value in ODD:
            self.assertIs(bench.attempt(lambda _: value), value)
        self.assertIs(bench.attempt(lambda each: each), bench)
        self.assertEqual(bench.attempt(work=lambda each: each.recut((("train", 1, 1),))), 1)
        self.assertEqual((bench.version, bench.cuts), (1, (("train", 1, 1),)))

    def edited(self):
        """A bench with an edit that stands and one that was taken back."""
        bench = Bench(LINE, ())
        bench.add((2, WEEK, (("abel", 2),)))
        bench.add((4, WEEK, (("abel", 4),)))
        bench.undo()
        return bench

    def test_errors_of_the_package(self):
        def edits(bench):
            bench.undo()
            bench.drop(1)
            bench.add(THERE)
            bench.redo()
        def makes(kind, *arguments):
            def work(bench):
                bench.drop(1)
                bench.undo()
                raise kind(*arguments)
            return work
        bench = self.edited()
        self.refuses(bench, NothingToRedo, bench.attempt, edits)
        self.refuses(bench, Rejected, bench.attempt, makes(Rejected, 7), index=7)
        self.refuses(bench, SheetError, bench.attempt, makes(SheetError))
        for name in ("BadPlan", "NoStation", "TooWide", "HasCuts"):
            with self.assertRaises(getattr(errors, name)):
                bench.attempt(makes(getattr(errors, name), "any"))
        self.assertEqual(state(bench), state(self.edited()))
        self.assertEqual([bench.redo(), numbers_of(bench.plan)], [2, [1, 2, 4]])

    def test_the_error_goes_on_as_it_is(self):
        bench = self.edited()
        kept = Rejected([1])
        def work(each):
            each.undo()
            raise kept
        with self.assertRaises(Rejected) as caught:
            bench.attempt(work)
        self.assertIs(caught.exception, kept)
        self.assertEqual(state(bench), state(self.edited()))

    def test_an_error_of_another_bench_counts_too(self):
        bench, other = self.edited(), self.edited()
        def work(each):
            other.drop(2)
            each.drop(2)
            other.drop(2)
        self.refuses(bench, NoTrain, bench.attempt, work, given=2)
        # What was done to the other bench stays.
        self.assertEqual(numbers_of(other.plan), [1])

    def test_an_error_that_work_catches_is_none(self):
        bench = self.edited()
        def work(each):
            each.drop(2)
            try:
                each.drop(2)
            except NoTrain:
                return each.version
        self.assertEqual(bench.attempt(work), 2)
        self.assertEqual(numbers_of(bench.plan), [1])

    def test_other_errors(self):
        for kind in (ValueError, KeyError, TypeError, ZeroDivisionError, StopIteration, KeyboardInterrupt):
            bench = self.edited()
            def work(each):
                each.drop(1)
                raise kind("any")
            with self.assertRaises(kind):
                bench.attempt(work)
            # What was done stays.
            self.assertEqual((bench.version, numbers_of(bench.plan)), (2, [2]))
            self.assertRaises(NothingToRedo, bench.redo)

    def test_attempts_within_attempts(self):
        def fails(bench):
            bench.drop(1)
            bench.undo()
            bench.undo()
            bench.drop(99)
        def catches(bench):
            bench.add((6, WEEK, (("abel", 6),)))
            before = state(bench)
            self.assertRaises(NoTrain, bench.attempt, fails)
            self.assertEqual(state(bench), before)
            return bench.add((7, WEEK, (("abel", 7),)))
        def lets_go(bench):
            bench.add((6, WEEK, (("abel", 6),)))
            bench.attempt(lambda each: each.add((7, WEEK, (("abel", 7),))))
            bench.attempt(fails)
        bench = self.edited()
        self.assertEqual(bench.attempt(catches), 3)
        self.assertEqual(numbers_of(bench.plan), [1, 2, 6, 7])
        bench = self.edited()
        self.refuses(bench, NoTrain, bench.attempt, lets_go, given=99)

    def test_a_version_that_is_gone(self):
        bench = self.edited()
        self.refuses(bench, NoVersion, bench.attempt, lambda each: each.at(5), given=5)
        self.refuses(bench, BadBatch, bench.attempt, lambda each: [each.undo(), each.batch(None)])


class TestBounds(Benches):

    def test_great_benches(self):
        for name, plan in GREAT_PLANS.items():
            with self.subTest(name=name), in_time(self, name):
                bench = Bench(plan, cuts_of_plan(plan))
                train = plan[1][5]
                bench.drop(train[0])
                bench.batch((("add", train), ("recut", cuts_of_plan(plan))))
                bench.change((train[0], (0,), train[2][:-1] or train[2]))
                bench.recut(cuts_of_plan(bench.plan))
                self.assertEqual(supplied(bench.at(0), bench.supplement_since(0)), bench.sheet)
                self.assertEqual(bench.copy(), bench)
                self.assertEqual(bench.version, 4)

    def test_forty_edits_of_a_great_bench(self):
        plan = GREAT_PLANS["drawn"]
        with in_time(self):
            bench = Bench(plan, cuts_of_plan(plan))
            for train in plan[1][:20]:
                bench.drop(train[0])
                bench.batch((("add", train), ("recut", cuts_of_plan(plan))))
            self.assertRaises(TooManyEdits, bench.batch, ())
            for _ in range(40):
                bench.undo()
        self.assertEqual(bench.sheet, told_sheet(plan, cuts_of_plan(plan)))

    def test_a_great_bench_without_cuts(self):
        plan = GREAT_PLANS["one way"]
        with in_time(self):
            bench = Bench(plan, ())
            for train in plan[1][:20]:
                bench.drop(train[0])
                bench.add(train)
        self.assertEqual((bench.plan, bench.cuts, bench.version), (plan, (), 40))


class TestConventions(Benches):

    def test_equal_calls_have_equal_results(self):
        for seed, plan in enumerate(small_plans(12, 7)):
            told = []
            for _ in range(2):
                drawn = Random(seed)
                bench = Bench(fresh(plan), cuts_of_plan(plan))
                for _ in range(12):
                    word, argument = drawn_step(drawn, plan)
                    try:
                        getattr(bench, word)(*(() if word in ("undo", "redo") else (fresh(argument),)))
                    except SheetError as error:
                        told.append(repr(vars(error)))
                told.append(repr((bench.sheet, bench.supplement_since(0))))
            self.assertEqual(told[:len(told) // 2], told[len(told) // 2:])


if __name__ == "__main__":
    unittest.main()
