"""Part E: sheets, the told orders, cells there and back, and the cuts that a sheet tells."""

import unittest
from itertools import permutations
from random import Random

from risingsheets.errors import BadCuts, HasRing, SheetError, Unfit
from risingsheets.plans import plan_error
from risingsheets.rings import lets_stand, ring_error
from risingsheets.sheets import cells, plan_of_cells, sheet_error, told_cuts, told_sheet
from risingsheets.threads import cuts_error, heads, part
from tests.drawn import CALENDAR, NAMES, cuts_of_plan, drawn_cuts, plan_of, small_plans, some_cuts
from tests.great import GREAT_PLANS, in_time
from tests.reference import all_heads, head_with, lets_none_stand, marks_of, minute_at, pairs_ahead, right_orders
from tests.values import GREAT, ODD, check_conventions, check_told, plain, put

EMPTY = (CALENDAR, ())
BARE = (EMPTY, (), (), ())
PLAN = ((3, 60, ()), ((12, (0, 1), (("abel", 425), ("bron", 440))), (15, (0, 1), (("abel", 430), ("bron", 436)))))
BY_STATION = (PLAN, (("station", "bron", 1),), (("abel", 0), ("bron", 0), ("bron", 1)), ((12, 0), (15, 0)))
BY_TRAIN = (PLAN, (("train", 12, 1),), (("abel", 0), ("bron", 0)), ((12, 0), (15, 0), (12, 1)))
AROUND = plan_of((("abel", 10), ("bron", 20), ("abel", 30)))

PLANS = small_plans(48, 7) + [EMPTY, PLAN, AROUND, plan_of((("abel", 5),))]


def sheets_of(plans):
    """The told sheets of plans with no cuts, all cuts, and drawn ones, where these are good."""
    return [told_sheet(plan, cuts) for seed, plan in enumerate(plans) for cuts in some_cuts(plan, seed)
            if lets_none_stand(plan, cuts)]


SHEETS = sheets_of(PLANS)


def any_order(seed, plan, cuts, side):
    """A right order of the heads of a side, drawn step by step."""
    drawn = Random(seed)
    pairs = pairs_ahead(plan, cuts, side)
    left = all_heads(plan, cuts, "train" if side == "columns" else "station")
    order = []
    while left:
        order.append(drawn.choice([head for head in left if not any((other, head) in pairs for other in left)]))
        left.remove(order[-1])
    return tuple(order)


def other_sheets():
    """Sheets in other right orders than the told ones."""
    return [sheet[:2] + (any_order(seed, *sheet[:2], "rows"), any_order(seed + 1, *sheet[:2], "columns"))
            for seed, sheet in enumerate(SHEETS)]


def first_error(sheet):
    """What sheet_error has to tell of a plan, its cuts, and tuples of just its heads."""
    for word, side, order in (("row", "rows", sheet[2]), ("column", "columns", sheet[3])):
        pairs = pairs_ahead(*sheet[:2], side)
        for place, head in enumerate(order):
            for further in (head,) + order[place + 1:]:
                if (further, head) in pairs:
                    return (word, head, further)
    return None


class SheetErrors(unittest.TestCase):

    def tells(self, expected, *values):
        for value in values:
            check_told(self, expected, sheet_error, value)


class TestSheetErrors(SheetErrors):

    def test_told_sheets_and_other_right_orders(self):
        self.tells(None, BARE, BY_STATION, BY_TRAIN, *SHEETS)
        others = other_sheets()
        self.tells(None, *others)
        self.assertGreater(len([each for each in others if each not in SHEETS]), 20)

    def test_all_orders_of_small_plans(self):
        seen = set()
        for seed, plan in enumerate(PLANS):
            for cuts in some_cuts(plan, seed)[::3]:
                rows, columns = heads(plan, cuts)
                if len(rows) <= 4 and len(columns) <= 4:
                    for turned in permutations(rows):
                        for other in list(permutations(columns))[:6]:
                            value = (plan, cuts, turned, other)
                            error = first_error(value)
                            seen.add(error and (error[0], error[1] == error[2]))
                            self.assertEqual(sheet_error(value), error)
        # Where a column is ahead of itself a row is, too, and rows are told first.
        self.assertEqual(seen, {None, ("row", True), ("row", False), ("column", False)})

    def test_form(self):
        self.tells("form", *[value for value in ODD if not (isinstance(value, tuple) and len(value) == 4)])
        self.tells("form", list(BY_TRAIN), BY_TRAIN[:3], BY_TRAIN + (None,), (BY_TRAIN,), ())
        self.tells(("plan", "form"), (4, 3, 2, 1), ((),) * 4)

    def test_any_items(self):
        for value in ODD:
            if value != ():
                self.tells(("cuts", cuts_error(PLAN, value)), put(BY_TRAIN, (1,), value))
            self.tells(("plan", plan_error(value)), put(BY_TRAIN, (0,), value), (value,) * 4)
            self.tells("rows", put(BY_TRAIN, (2,), value), put(BY_TRAIN, (2,), (value,)),
                       put(BY_TRAIN, (2, 0), value), put(BY_TRAIN, (2, 1, 0), value), put(BY_TRAIN, (2, 1, 1), value))
            self.tells("columns", put(BY_TRAIN, (3,), value), put(BY_TRAIN, (3,), (value,)),
                       put(BY_TRAIN, (3, 0), value), put(BY_TRAIN, (3, 1, 0), value), put(BY_TRAIN, (3, 1, 1), value))

    def test_plans_and_cuts(self):
        spoilt = put(PLAN, (1, 1, 2, 1, 1), 430)
        self.tells(("plan", ("rise", 1, 1)), put(BY_TRAIN, (0,), spoilt), (spoilt, None, None, None))
        self.tells(("plan", "trains"), put(BY_TRAIN, (0, 1), None))
        self.tells(("cuts", "form"), put(BY_TRAIN, (1,), [("train", 12, 1)]), (PLAN, None, None, None))
        self.tells(("cuts", ("cut", 0)), put(BY_TRAIN, (1, 0, 2), 2), put(BY_TRAIN, (1, 0, 2), True))
        self.tells(("cuts", ("cut", 1)), put(BY_TRAIN, (1,), BY_TRAIN[1] * 2))

    def test_heads(self):
        rows, columns = BY_TRAIN[2:]
        for wrong in (list(rows), rows[:1], rows + rows[:1], rows[:1] * 2, (), None, rows + (("bron", 1),),
                      (("abel", 0), ("bron", 1)), (("abel", False), ("bron", 0)), (["abel", 0], ("bron", 0)),
                      (("abel",), ("bron", 0)), (("abel", 0, 0), ("bron", 0)), columns, columns[:2],
                      (("abel", 0), ("bron", "0")), (("abel", 0), ("cole", 0)), (("abel", 0), None)):
            self.tells("rows", put(BY_TRAIN, (2,), wrong))
        for wrong in (list(columns), columns[:2], columns + columns[:1], columns[:1] * 3, (), None, columns[1:] * 2,
                      ((12, 0), (15, 0), (12, True)), ((12, 0), (15, False), (12, 1)), rows, rows + rows[:1],
                      ((12, 0), (15, 0), (12, 2)), ((12, 0), (15, 0), ("12", 1)), ((12, 0), [15, 0], (12, 1)),
                      ((12, 0), (15, 0), (12, GREAT)), ((12, 0), (15, 0), 12)):
            self.tells("columns", put(BY_TRAIN, (3,), wrong))

    def test_heads_of_a_train_one(self):
        plan = plan_of((("abel", 10), ("bron", 20)))
        self.tells(None, (plan, (), (("abel", 0), ("bron", 0)), ((1, 0),)))
        self.tells("columns", (plan, (), (("abel", 0), ("bron", 0)), ((True, 0),)))
        self.tells("rows", (plan, (), ((True, 0), ("bron", 0)), ((1, 0),)))

    def test_heads_of_other_cuts(self):
        self.tells("rows", BY_STATION[:2] + BY_TRAIN[2:], put(BY_TRAIN, (1,), BY_STATION[1]))
        self.tells("columns", put(BY_STATION, (3,), BY_TRAIN[3]), put(BY_TRAIN, (3,), BY_STATION[3]))

    def test_orders(self):
        self.tells(("row", ("bron", 0), ("abel", 0)), put(BY_TRAIN, (2,), BY_TRAIN[2][::-1]))
        self.tells(("column", (15, 0), (12, 0)), put(BY_TRAIN, (3,), ((15, 0), (12, 0), (12, 1))))
        self.tells(("column", (12, 1), (15, 0)), put(BY_TRAIN, (3,), ((12, 0), (12, 1), (15, 0))))
        self.tells(None, put(BY_STATION, (2,), (("abel", 0), ("bron", 1), ("bron", 0))))
        self.tells(("row", ("bron", 1), ("abel", 0)), put(BY_STATION, (2,), (("bron", 1), ("bron", 0), ("abel", 0))),
                   put(BY_STATION, (2,), (("bron", 1), ("abel", 0), ("bron", 0))))

    def test_the_first_head_counts_and_then_the_first_of_the_later_ones(self):
        plan = plan_of((("abel", 10), ("bron", 20), ("cobb", 30)))
        abel, bron, cobb = ("abel", 0), ("bron", 0), ("cobb", 0)
        for order, head, further in (((cobb, bron, abel), cobb, bron), ((cobb, abel, bron), cobb, abel),
                                     ((abel, cobb, bron), cobb, bron), ((bron, cobb, abel), bron, abel),
                                     ((bron, abel, cobb), bron, abel)):
            self.tells(("row", head, further), (plan, (), order, ((1, 0),)))
        plan = plan_of((("abel", 10),), (("abel", 20),), (("abel", 30),))
        one, two, three = (1, 0), (2, 0), (3, 0)
        for order, head, further in (((three, two, one), three, two), ((one, three, two), three, two),
                                     ((two, three, one), two, one), ((three, one, two), three, one)):
            self.tells(("column", head, further), (plan, (), (("abel", 0),), order))

    def test_a_head_ahead_of_itself_is_told_first(self):
        self.tells(("row", ("abel", 0), ("abel", 0)), (AROUND, (), (("abel", 0), ("bron", 0)), ((1, 0),)))
        self.tells(("row", ("bron", 0), ("abel", 0)), (AROUND, (), (("bron", 0), ("abel", 0)), ((1, 0),)))
        plan = plan_of((("abel", 10), ("bron", 20), ("abel", 30)), (("bron", 5), ("abel", 7)))
        self.tells(("row", ("abel", 0), ("abel", 0)), (plan, (), (("abel", 0), ("bron", 0)), ((2, 0), (1, 0))))
        cuts = (("train", 1, 1),)
        self.tells(("row", ("abel", 0), ("bron", 0)), (plan, cuts, (("abel", 0), ("bron", 0)), heads(plan, cuts)[1]))

    def test_two_things_wrong(self):
        wrong = (None, "abel", BY_TRAIN[2][::-1], ((15, 0), (12, 0), (12, 1)))
        told = (("plan", "form"), ("cuts", "form"), ("row", ("bron", 0), ("abel", 0)), ("column", (15, 0), (12, 0)))
        for first in range(4):
            for second in range(first + 1, 4):
                value = put(put(BY_TRAIN, (first,), wrong[first]), (second,), wrong[second])
                self.tells(told[first], value)
                self.tells("form", value + (None,), list(value))
        for third in (None, (), BY_TRAIN[2][:1]):
            self.tells("rows", BY_TRAIN[:2] + (third, wrong[3]), BY_TRAIN[:2] + (third, None))
        self.tells("columns", BY_TRAIN[:2] + (wrong[2], None))

    def test_drawn_sheets_with_two_heads_exchanged(self):
        for sheet in SHEETS:
            for item in (2, 3):
                for place in range(1, len(sheet[item])):
                    order = sheet[item]
                    turned = order[:place - 1] + (order[place], order[place - 1]) + order[place + 1:]
                    value = put(sheet, (item,), turned)
                    self.assertEqual(sheet_error(value), first_error(value))


class TestToldSheets(unittest.TestCase):

    def test_told_orders_step_by_step(self):
        for plan, cuts, rows, columns in SHEETS:
            for side, kind, order in (("rows", "station", rows), ("columns", "train", columns)):
                pairs = pairs_ahead(plan, cuts, side)
                left = all_heads(plan, cuts, kind)
                for head in order:
                    free = [each for each in left
                            if not any((other, each) in pairs for other in left if other != each)]
                    firsts = [(minute_at(plan, part(plan, cuts, kind, each)[0]),) + each for each in free]
                    self.assertEqual(head, min(firsts)[1:])
                    left.remove(head)
                self.assertEqual(left, [])

    def test_a_sheet_for_good_cuts_only(self):
        for seed, plan in enumerate(PLANS):
            for cuts in some_cuts(plan, seed):
                if lets_none_stand(plan, cuts):
                    sheet = told_sheet(plan, cuts)
                    self.assertEqual(sheet[:2], (plan, cuts))
                    self.assertIsNone(sheet_error(sheet))
                    self.assertTrue(plain(sheet))
                else:
                    with self.assertRaises(HasRing) as caught:
                        told_sheet(plan, cuts)
                    self.assertIsNone(ring_error(plan, caught.exception.ring))
                    self.assertTrue(lets_stand(plan, cuts, caught.exception.ring))
                    self.assertIsInstance(caught.exception, SheetError)
                    self.assertIsInstance(caught.exception, ValueError)

    def refuses(self, plan, *values):
        for value in values:
            with self.subTest(value=repr(value)[:200]), self.assertRaises(BadCuts) as caught:
                told_sheet(plan, value)
            self.assertEqual(repr(caught.exception.error), repr(cuts_error(plan, value)))
            self.assertIsInstance(caught.exception, SheetError)
            self.assertIsInstance(caught.exception, ValueError)

    def test_bad_cuts(self):
        odd = [value for value in ODD if value != ()]
        self.refuses(PLAN, *odd, [("train", 12, 1)], (("train", 12, 2),), (("train", 12, True),))
        self.refuses(PLAN, (("train", 12, 1),) * 2)
        self.refuses(EMPTY, *odd)

    def test_bad_cuts_are_told_ahead_of_rings(self):
        self.assertRaises(HasRing, told_sheet, AROUND, ())
        self.refuses(AROUND, (("train", 1, 3),), [], None, (("train", 1, 1), ("station", "abel", 1)))

    def test_plans_without_trains(self):
        self.assertEqual(told_sheet(EMPTY, ()), BARE)

    def test_numbers_are_compared_as_numbers_and_minutes_come_first(self):
        plan = (CALENDAR, tuple((number, (0,), ((name, minute),)) for number, name, minute in
                                ((2, "d", 9), (9, "c", 5), (10, "b", 5), (100, "a", 4))))
        self.assertEqual(told_sheet(plan, ())[2:], ((("a", 0), ("b", 0), ("c", 0), ("d", 0)),
                                                    ((100, 0), (9, 0), (10, 0), (2, 0))))


class TestCells(unittest.TestCase):

    def test_each_call_stands_in_one_cell(self):
        for sheet in SHEETS + other_sheets():
            plan, cuts, rows, columns = sheet
            told = cells(sheet)
            self.assertEqual([len(row) for row in told], [len(columns)] * len(rows))
            wanted = {(rows.index(head_with(plan, cuts, "station", mark)),
                       columns.index(head_with(plan, cuts, "train", mark))): minute_at(plan, mark)
                      for mark in marks_of(plan)}
            self.assertEqual(len(wanted), len(marks_of(plan)))
            self.assertEqual({(row, column): minute for row, line in enumerate(told)
                              for column, minute in enumerate(line) if minute is not None}, wanted)

    def test_minutes_do_not_fall_along_rows_and_rise_down_columns(self):
        for sheet in SHEETS + other_sheets():
            told = cells(sheet)
            for row in told:
                minutes = [minute for minute in row if minute is not None]
                self.assertEqual(minutes, sorted(minutes))
            for column in zip(*told):
                minutes = [minute for minute in column if minute is not None]
                self.assertEqual(minutes, sorted(set(minutes)))

    def test_there_and_back(self):
        for sheet in SHEETS + other_sheets() + [BARE]:
            plan, _, rows, columns = sheet
            days = tuple((number, running) for number, running, _ in plan[1])
            names, numbers = tuple(head[0] for head in rows), tuple(head[0] for head in columns)
            self.assertEqual(plan_of_cells(plan[0], days, names, numbers, cells(sheet)), plan)

    def test_orders_in_which_the_cells_rise_make_sheets(self):
        for plan in small_plans(24, 5):
            for cuts in some_cuts(plan, 9):
                rows, columns = heads(plan, cuts)
                if len(rows) <= 4 and len(columns) <= 4:
                    for turned in permutations(rows):
                        for other in permutations(columns):
                            self.assertEqual(self.rises(plan, cuts, turned, other),
                                             sheet_error((plan, cuts, turned, other)) is None)

    def rises(self, plan, cuts, rows, columns):
        """Whether no cell has two calls, minutes rise down the columns, and do not fall along the rows."""
        places = [(rows.index(head_with(plan, cuts, "station", mark)),
                   columns.index(head_with(plan, cuts, "train", mark)), minute_at(plan, mark))
                  for mark in marks_of(plan)]
        for row, column, minute in places:
            for further, other, later in places:
                if (row, column) == (further, other) and minute != later:
                    return False
                if column == other and row < further and minute >= later:
                    return False
                if row == further and column < other and minute > later:
                    return False
        return True

    def test_sheets_without_rows_and_columns(self):
        self.assertEqual(cells(BARE), ())
        self.assertEqual(cells((plan_of((("abel", 5),)), (), (("abel", 0),), ((1, 0),))), ((5,),))
        self.assertEqual(cells(BY_STATION), ((425, 430), (None, 436), (440, None)))


class TestPlanOfCells(unittest.TestCase):

    DAYS = ((12, (0, 1)), (15, (0, 5)))

    def unfit(self, *arguments):
        with self.subTest(arguments=repr(arguments)[:200]), self.assertRaises(Unfit) as caught:
            plan_of_cells(*arguments)
        self.assertIsInstance(caught.exception, SheetError)
        self.assertIsInstance(caught.exception, ValueError)

    def test_rows_and_columns_in_any_order_and_without_minutes(self):
        wanted = (CALENDAR, ((12, (0, 1), (("abel", 5), ("bron", 9))), (15, (0, 5), (("bron", 7),))))
        self.assertEqual(plan_of_cells(CALENDAR, self.DAYS, ("bron", "abel"), (15, 12), ((7, 9), (None, 5))), wanted)
        self.assertEqual(plan_of_cells(CALENDAR, self.DAYS, ("bron", "cole", "abel", "bron"), (12, 15, 12),
                                       ((None, 7, None), (None,) * 3, (None, None, 5), (9, None, None))), wanted)
        self.assertEqual(plan_of_cells(CALENDAR, (), (), (), ()), EMPTY)
        self.assertEqual(plan_of_cells(CALENDAR, (), ("abel",), (), ((),)), EMPTY)

    def test_one_row_can_have_two_calls_of_a_train(self):
        self.assertEqual(plan_of_cells(CALENDAR, self.DAYS[:1], ("abel",), (12, 12), ((9, 5),)),
                         (CALENDAR, ((12, (0, 1), (("abel", 5), ("abel", 9))),)))

    def test_the_greatest_minutes(self):
        self.assertEqual(plan_of_cells(CALENDAR, self.DAYS[:1], ("abel", "bron"), (12,), ((2879,), (0,))),
                         (CALENDAR, ((12, (0, 1), (("bron", 0), ("abel", 2879))),)))

    def test_two_calls_at_one_minute(self):
        self.unfit(CALENDAR, self.DAYS[:1], ("abel", "bron"), (12,), ((8,), (8,)))
        self.unfit(CALENDAR, self.DAYS[:1], ("abel", "abel"), (12,), ((8,), (8,)))
        self.unfit(CALENDAR, self.DAYS[:1], ("abel", "bron"), (12, 12), ((8, None), (None, 8)))
        self.unfit(CALENDAR, self.DAYS[:1], ("abel",), (12, 12), ((8, 8),))

    def test_trains_without_calls_and_numbers_without_days(self):
        self.unfit(CALENDAR, self.DAYS, ("abel",), (12, 15), ((8, None),))
        self.unfit(CALENDAR, self.DAYS, ("abel",), (12,), ((8,),))
        self.unfit(CALENDAR, self.DAYS, (), (), ())
        self.unfit(CALENDAR, self.DAYS[:1], ("abel",), (12, 15), ((8, None),))
        self.unfit(CALENDAR, self.DAYS[:1], ("abel",), (12, 15), ((8, 9),))
        self.unfit(CALENDAR, (), (), (15,), ())
        self.unfit(CALENDAR, self.DAYS[:1], ("abel",), (1, 12), ((None, 9),))

    def test_too_much_for_a_plan(self):
        many = tuple((number, (0,)) for number in range(1, 26))
        row = (tuple(range(25)),)
        self.unfit(CALENDAR, many, ("abel",), tuple(range(1, 26)), row)
        self.assertEqual(len(plan_of_cells(CALENDAR, many[:24], ("abel",), tuple(range(1, 25)), (row[0][:24],))[1]), 24)
        names = NAMES + ("zell",)
        minutes = tuple((minute,) for minute in range(17))
        self.unfit(CALENDAR, many[:1], names, (1,), minutes)
        self.assertEqual(len(plan_of_cells(CALENDAR, many[:1], names[:16], (1,), minutes[:16])[1][0][2]), 16)
        self.unfit(CALENDAR, many[:1], ("abel",) * 201, (1,), tuple((minute,) for minute in range(201)))
        most = plan_of_cells(CALENDAR, many[:1], ("abel",) * 200, (1,), tuple((minute,) for minute in range(200)))
        self.assertEqual(len(most[1][0][2]), 200)


class TestToldCuts(unittest.TestCase):

    def test_told_cuts_are_the_cuts(self):
        for sheet in SHEETS + other_sheets() + [BARE, BY_STATION, BY_TRAIN]:
            self.assertEqual(told_cuts(sheet), sheet[1])

    def test_all_cuts(self):
        for plan in PLANS:
            self.assertEqual(told_cuts(told_sheet(plan, cuts_of_plan(plan))), cuts_of_plan(plan))

    def test_cuts_between_calls_of_one_minute(self):
        plan = plan_of((("abel", 5),), (("abel", 5),), (("abel", 5),))
        for cuts in ((), (("station", "abel", 1),), (("station", "abel", 2),), cuts_of_plan(plan)):
            self.assertEqual(told_cuts(told_sheet(plan, cuts)), cuts)


class TestBounds(unittest.TestCase):

    def test_great_sheets(self):
        for name, plan in GREAT_PLANS.items():
            good = [cuts for cuts in (cuts_of_plan(plan), drawn_cuts(4, plan, 9), drawn_cuts(5, plan, 8))]
            for cuts in good + [()] * (name == "one way"):
                with self.subTest(name=name), in_time(self, name):
                    try:
                        sheet = told_sheet(plan, cuts)
                    except HasRing as error:
                        self.assertTrue(lets_stand(plan, cuts, error.ring))
                        continue
                    self.assertIsNone(sheet_error(sheet))
                    self.assertEqual(told_cuts(sheet), cuts)
                    days = tuple((number, running) for number, running, _ in plan[1])
                    names, numbers = tuple(head[0] for head in sheet[2]), tuple(head[0] for head in sheet[3])
                    self.assertEqual(plan_of_cells(plan[0], days, names, numbers, cells(sheet)), plan)


class TestConventions(unittest.TestCase):

    def test_functions_of_sheets(self):
        for sheet in SHEETS[::9] + [BARE, BY_STATION, BY_TRAIN]:
            plan, cuts, rows, columns = sheet
            check_conventions(self, sheet_error, value=sheet)
            check_conventions(self, told_sheet, plan=plan, cuts=cuts)
            check_conventions(self, cells, sheet=sheet)
            check_conventions(self, told_cuts, sheet=sheet)
            check_conventions(self, plan_of_cells, calendar=plan[0], days=tuple(train[:2] for train in plan[1]),
                              names=tuple(head[0] for head in rows), numbers=tuple(head[0] for head in columns),
                              minutes=cells(sheet))
            check_conventions(self, plan_of_cells, calendar=plan[0], days=(), names=("abel",), numbers=(7,),
                              minutes=((None,),))

    def test_functions_of_any_values(self):
        for value in ODD + (AROUND, list(BY_TRAIN)):
            check_conventions(self, sheet_error, value=value)
            check_conventions(self, told_sheet, plan=AROUND, cuts=value)

    def test_rings_are_told_alike(self):
        for plan in PLANS:
            check_conventions(self, told_sheet, plan=plan, cuts=())

    def test_right_orders_are_many(self):
        plan = plan_of((("abel", 5),), (("bron", 9),))
        self.assertEqual(len(right_orders(plan, (), "rows")) * len(right_orders(plan, (), "columns")), 4)
        for rows in right_orders(plan, (), "rows"):
            for columns in right_orders(plan, (), "columns"):
                self.assertIsNone(sheet_error((plan, (), rows, columns)))


if __name__ == "__main__":
    unittest.main()
