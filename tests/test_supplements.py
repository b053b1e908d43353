"""Part I: sheets that follow an elder one, and supplements from one sheet to another."""

import unittest
from itertools import combinations
from random import Random

from risingsheets.errors import BadSupplement, SheetError
from risingsheets.plans import plan_error
from risingsheets.sheets import sheet_error, told_sheet
from risingsheets.staying import kept
from risingsheets.supplements import following, supplement, supplied
from tests.changes import CHANGES, SIDES, any_sheet, staying_with
from tests.drawn import CALENDAR, NAMES, cuts_of_plan, plan_of
from tests.great import GREAT_PLANS, in_time
from tests.reference import lets_none_stand
from tests.test_sheets import SHEETS
from tests.test_staying import EARLY, LATE, NEW, OLD, ROW, ROW_CUTS, SHEET, THIRD, long_row, reversed_row
from tests.values import GREAT, ODD, check_conventions, fresh, plain, put

STILL = ((), ())
ROWS = ((), ((("cody", 0), None), (("bron", 0), ("abel", 0))))
COLUMNS = (((2, 0),), (((3, 0), (1, 0)), ((2, 0), (3, 0))))
MORE = (CALENDAR, (), (THIRD,), (), ROWS, COLUMNS)
NOTHING = (CALENDAR, (), (), (), STILL, STILL)
EMPTY = ((CALENDAR, ()), (), (), ())


def order_on(sheet, side):
    return sheet[3] if side == "columns" else sheet[2]


def most_in_order(heads, order):
    """How many of the heads stand in the order in which they are told, at most, by trying all of them."""
    places = [order.index(head) for head in heads]
    for many in range(len(places), 0, -1):
        if any(list(lot) == sorted(lot) for lot in combinations(places, many)):
            return many
    return 0


def led_with(sheet, value):
    """The sheet to which a supplement leads by [I8], None if it leads to none."""
    calendar, gone, new, cuts, *moves = value
    numbers = [number for number, _, _ in sheet[0][1]]
    if not set(gone) <= set(numbers):
        return None
    left = [train for train in sheet[0][1] if train[0] not in gone and train[0] not in [number for number, _, _ in new]]
    plan = (calendar, tuple(sorted(left + list(new))))
    if plan_error(plan) is not None or not set(cuts) <= set(cuts_of_plan(plan)) or not lets_none_stand(plan, cuts):
        return None
    told = []
    for side, (struck, puts) in zip(("rows", "columns"), moves):
        row = [newer for _, newer in staying_with(sheet, plan, cuts, side)]
        if not set(struck) <= set(row):
            return None
        row = [head for head in row if head not in struck]
        for head, other in puts:
            if head in row or other not in [None] + row:
                return None
            place = row.index(other) + 1 if other else 0
            row = row[:place] + [head] + row[place:]
        told.append(tuple(row))
    newer = (plan, cuts, *told)
    return newer if sheet_error(newer) is None else None


class TestFollowing(unittest.TestCase):

    def check(self, sheet, plan, cuts):
        newer = following(sheet, plan, cuts)
        self.assertIsNone(sheet_error(newer))
        self.assertTrue(plain(newer))
        self.assertEqual(newer[:2], (plan, cuts))
        for side in SIDES:
            heads = [head for _, head in staying_with(sheet, plan, cuts, side)]
            self.assertEqual(most_in_order(heads, order_on(newer, side)), len(kept(sheet, plan, cuts, side)))
        return newer

    def test_drawn_changes(self):
        for sheet, plan, cuts in CHANGES:
            self.check(sheet, plan, cuts)

    def test_the_sheet_itself_for_its_own_plan_and_cuts(self):
        for sheet, _, _ in CHANGES:
            self.assertEqual(following(sheet, *sheet[:2]), sheet)
        self.assertEqual(following(EMPTY, *EMPTY[:2]), EMPTY)

    def test_one_order_alone(self):
        self.assertEqual(self.check(SHEET, NEW, ())[3], ((1, 0), (3, 0), (2, 0)))
        self.assertEqual(self.check(reversed_row(), ROW, ())[3], ((1, 0), (2, 0), (3, 0), (4, 0), (5, 0)))

    def test_elder_orders_that_are_not_told_ones(self):
        sheet = SHEET[:2] + ((("cody", 0), ("abel", 0), ("bron", 0), ("dorn", 0)), ((1, 0), (2, 0)))
        late = (CALENDAR, OLD[1] + ((9, (0,), (("elm", 1),)),))
        newer = self.check(sheet, late, ())
        self.assertEqual([head for head in newer[2] if head != ("elm", 0)], list(sheet[2]))
        self.assertEqual([head for head in newer[3] if head != (9, 0)], list(sheet[3]))

    def test_one_behind_another(self):
        sheet = any_sheet(3, SHEETS[5])
        for _, plan, cuts in CHANGES[:60]:
            sheet = self.check(sheet, plan, cuts)


class Supplements(unittest.TestCase):

    def refuses(self, sheet, *values):
        for value in values:
            with self.subTest(value=repr(value)[:300]), self.assertRaises(BadSupplement) as caught:
                supplied(sheet, value)
            self.assertIsInstance(caught.exception, SheetError)
            self.assertIsInstance(caught.exception, ValueError)

    def leads(self, sheet, value, newer):
        with self.subTest(value=repr(value)[:300]):
            self.assertEqual(repr(supplied(sheet, value)), repr(newer))


class TestSupplied(Supplements):

    def test_more(self):
        self.leads(SHEET, MORE, told_sheet(NEW, ()))
        self.leads(SHEET, NOTHING, SHEET)
        self.leads(EMPTY, NOTHING, EMPTY)

    def test_more_strikes_than_are_needed(self):
        rows = (tuple(sorted(SHEET[2])), tuple(zip(SHEET[2], (None,) + SHEET[2][:-1])))
        columns = (((1, 0), (2, 0)), (((2, 0), None), ((1, 0), (2, 0))))
        self.leads(SHEET, (CALENDAR, (), (), (), rows, STILL), SHEET)
        self.leads(SHEET, (CALENDAR, (), (), (), rows, columns), SHEET)
        self.leads(SHEET, (CALENDAR, (), (), (), STILL, (((1, 0),), (((1, 0), (2, 0)),))), SHEET)

    def test_puts_in_their_order(self):
        columns = (((1, 0), (2, 0)), (((1, 0), None), ((2, 0), None)))
        self.leads(SHEET, (CALENDAR, (), (), (), STILL, columns), SHEET)
        columns = (((1, 0), (2, 0)), (((2, 0), None), ((1, 0), None)))
        self.leads(SHEET, (CALENDAR, (), (), (), STILL, columns), SHEET[:3] + (((1, 0), (2, 0)),))
        columns = (((1, 0), (2, 0)), (((2, 0), (1, 0)), ((1, 0), None)))
        self.refuses(SHEET, (CALENDAR, (), (), (), STILL, columns))

    def test_trains_gone_and_fresh(self):
        self.leads(SHEET, (CALENDAR, (1,), (), (), STILL, STILL), told_sheet((CALENDAR, (LATE,)), ()))
        self.leads(SHEET, (CALENDAR, (1, 2), (), (), STILL, STILL), EMPTY)
        days = (CALENDAR, ((1, (0, 1), EARLY[2]), LATE))
        self.leads(SHEET, (CALENDAR, (), days[1][:1], (), STILL, ((), (((1, 0), (2, 0)),))),
                   (days, ()) + SHEET[2:])
        # A train can come again just as it was.
        self.leads(SHEET, (CALENDAR, (), OLD[1], (), STILL, STILL), SHEET)
        self.leads(SHEET, ((6, 1, ()), (), (), (), STILL, STILL), (((6, 1, ()), OLD[1]),) + SHEET[1:])

    def test_cuts(self):
        cuts = (("train", 1, 1),)
        columns = ((), (((1, 0), (2, 0)), ((1, 1), (1, 0))))
        self.leads(SHEET, (CALENDAR, (), (), cuts, STILL, columns), (OLD, cuts, SHEET[2], ((2, 0), (1, 0), (1, 1))))
        columns = ((), (((1, 1), (2, 0)), ((1, 0), None)))
        self.leads(SHEET, (CALENDAR, (), (), cuts, STILL, columns), (OLD, cuts, SHEET[2], ((1, 0), (2, 0), (1, 1))))

    def test_it_leads_to_no_sheet(self):
        self.refuses(
            SHEET, put(MORE, (1,), (9,)), put(NOTHING, (1,), (3,)), put(NOTHING, (1,), (1, 3)),
            # Cuts that are none of the plan.
            put(NOTHING, (3,), (("train", 3, 1),)), put(NOTHING, (3,), (("train", 1, 2),)),
            put(NOTHING, (3,), (("station", "abel", 1),)),
            # Heads that can't be taken out or put, and rows that lack one or have one too many.
            put(NOTHING, (5,), (((3, 0),), ())), put(NOTHING, (5,), (((1, 0),), ())),
            put(NOTHING, (4, 0), (("elm", 0),)),
            put(NOTHING, (4, 0), (("abel", 0),)), put(NOTHING, (5, 1), (((1, 0), None),)),
            put(NOTHING, (5, 1), (((3, 0), None),)), put(NOTHING, (5, 1), (((1, 1), (1, 0)),)),
            put(NOTHING, (4, 1), ((("abel", 1), None),)), put(MORE, (5, 0), ()), put(MORE, (4, 1), ROWS[1][:1]),
            put(MORE, (5, 1), (((3, 0), (1, 0)), ((2, 0), (9, 0)))), put(MORE, (5, 1), COLUMNS[1][:1]),
            put(MORE, (5, 1), (((2, 0), (3, 0)), ((3, 0), (1, 0)))), put(MORE, (5, 1), COLUMNS[1] + COLUMNS[1][1:]),
            # A head that stands behind one that it is ahead of.
            put(MORE, (5, 1), (((2, 0), None), ((3, 0), (2, 0)))),
            put(MORE, (4, 1), ((("cody", 0), None), (("bron", 0), None))),
            put(MORE, (5, 1), (((3, 0), None), ((2, 0), (3, 0)))))

    def test_no_plans(self):
        calendar = (0, 9, ())
        sheet = told_sheet((calendar, ((1, (8,), (("abel", 5),)),)), ())
        self.leads(sheet, (calendar, (), (), (), STILL, STILL), sheet)
        self.refuses(sheet, ((0, 8, ()), (), (), (), STILL, STILL))
        new = tuple((number, (0,), (("abel", number),)) for number in range(2, 26))
        puts = tuple(((number, 0), (number - 1, 0)) for number in range(2, 26))
        rows = ((), ((("abel", 0), None),))
        self.refuses(told_sheet((calendar, ((1, (8,), (("abel", 1),)),)), ()),
                     (calendar, (), new, (), rows, ((), puts)))
        self.assertEqual(len(supplied(told_sheet((calendar, ((1, (8,), (("abel", 1),)),)), ()),
                                      (calendar, (), new[:23], (), rows, ((), puts[:23])))[0][1]), 24)
        stations = tuple((name + "x", 10 + place) for place, name in enumerate(NAMES))
        self.refuses(sheet, (calendar, (), ((2, (0,), stations),), (), ((), tuple(
            ((name, 0), None) for name, _ in stations[::-1])), ((), (((2, 0), (1, 0)),))))

    def test_cuts_that_let_a_ring_stand(self):
        around = plan_of((("abel", 5), ("bron", 6), ("abel", 7)))
        sheet = told_sheet(around, (("train", 1, 2),))
        self.refuses(sheet, (CALENDAR, (), (), (), STILL, ((), (((1, 0), None),))))
        new = ((5, (0,), (("bron", 100), ("abel", 120))),)
        sheet = told_sheet(plan_of((("abel", 110), ("bron", 130))), ())
        self.refuses(sheet, (CALENDAR, (), new, (), ((), ((("abel", 0), None), (("bron", 0), ("abel", 0)))),
                             ((), (((5, 0), (1, 0)),))))

    def test_against_the_words_of_the_document(self):
        seen = {True: 0, False: 0}
        for seed, (sheet, plan, cuts) in enumerate(CHANGES[::2]):
            drawn = Random(seed)
            right = supplement(sheet, following(sheet, plan, cuts))
            values = [right]
            for item in (4, 5):
                struck, puts = right[item]
                values += [put(right, (item, 1), puts[:place] + puts[place + 1:]) for place in range(len(puts))]
                values += [put(right, (item, 0), struck[:place] + struck[place + 1:]) for place in range(len(struck))]
                turned = list(puts)
                drawn.shuffle(turned)
                values += [put(right, (item, 1), tuple(turned)),
                           put(right, (item, 1), tuple((head, None) for head, _ in puts[::-1]))]
            values += [put(right, (1,), right[1][1:]), put(right, (2,), right[2][1:]), put(right, (3,), right[3][1:]),
                       put(right, (3,), cuts_of_plan(plan)), put(right, (0,), (0, 8, ()))]
            for value in values:
                newer = led_with(sheet, value)
                seen[newer is None] += 1
                if newer is None:
                    self.refuses(sheet, value)
                else:
                    self.leads(sheet, value, newer)
        self.assertGreater(min(seen.values()), 400)


class TestForm(Supplements):

    def test_any_values(self):
        self.refuses(SHEET, *ODD, *[(value,) * 6 for value in ODD], list(MORE), MORE[:5], MORE + (None,), (MORE,), ())
        for value in ODD:
            for path in ((0,), (0, 0), (0, 1), (2, 0), (2, 0, 0), (2, 0, 1), (2, 0, 2), (2, 0, 2, 0), (2, 0, 2, 0, 1),
                         (2, 0, 2, 1, 0), (4,), (5,), (4, 1, 0), (4, 1, 0, 0), (4, 1, 1, 1), (4, 1, 0, 0, 0),
                         (4, 1, 0, 0, 1), (4, 1, 1, 1, 0), (4, 1, 1, 1, 1), (5, 0, 0), (5, 0, 0, 0), (5, 0, 0, 1),
                         (5, 1, 0), (5, 1, 0, 0), (5, 1, 0, 0, 0), (5, 1, 0, 0, 1), (5, 1, 1, 1, 0), (5, 1, 1, 1, 1)):
                self.refuses(SHEET, put(MORE, path, value))
            for path in ((1,), (3,), (4, 0)):
                if value != ():
                    self.refuses(SHEET, put(MORE, path, value))
            self.refuses(SHEET, put(MORE, (1,), (value,)), put(MORE, (3,), (value,)), put(MORE, (4, 0), (value,)),
                         put(MORE, (5, 0), value), put(MORE, (5, 1), value), put(MORE, (2,), value))

    def test_calendars(self):
        self.refuses(SHEET, *[put(NOTHING, (0,), calendar) for calendar in (
            (7, 30, ()), (-1, 30, ()), (3, 0, ()), (3, 401, ()), (3, 30, (30,)), (3, 30, (4, 4)), (3, 30), [3, 30, ()],
            (3, 30, [4]), (True, 30, ()), (3, True, ()))])

    def test_gone(self):
        self.refuses(SHEET, *[put(NOTHING, (1,), gone) for gone in (
            [1], (2, 1), (1, 1), (0,), (10000,), (True,), ("1",), (1, "2"), (1, None), ((1,),), 1, (GREAT,))])
        self.refuses(SHEET, (CALENDAR, (1,), (EARLY,), (), STILL, STILL), (CALENDAR, (3,), (THIRD,), (), ROWS, COLUMNS))

    def test_fresh(self):
        self.refuses(SHEET, *[put(MORE, (2,), new) for new in (
            [THIRD], (list(THIRD),), (THIRD[:2],), (THIRD, THIRD), (THIRD, LATE), (put(THIRD, (0,), True),),
            (put(THIRD, (1,), ()),), (put(THIRD, (1,), (30,)),), (put(THIRD, (1,), (1, 0)),), (put(THIRD, (2,), ()),),
            (put(THIRD, (2, 0, 1), 26),), (put(THIRD, (2, 0, 0), "Cody"),), (put(THIRD, (2, 0), ["cody", 3]),),
            (None, THIRD),
            (put(THIRD, (0,), 0),), (put(THIRD, (0,), 10000),), (put(THIRD, (2, 1, 1), 2880),), (THIRD, None), None)])

    def test_cuts(self):
        plan = plan_of((("abel", 5), ("bron", 6), ("abel", 7)))
        cuts = (("station", "abel", 1), ("train", 1, 1))
        sheet = told_sheet(plan, cuts)
        self.leads(sheet, (CALENDAR, (), (), cuts, STILL, STILL), sheet)
        for wrong in (list(cuts), cuts[::-1], cuts[:1] * 2, (list(cuts[0]), cuts[1]), (cuts[0][:2],), (cuts[0] + (1,),),
                      (("Station", "abel", 1),), (("station", 1, 1),), (("train", "abel", 1),),
                      (("station", "Abel", 1),),
                      (("station", "abel", 0),), (("station", "abel", 200),), (("station", "abel", True),),
                      (("train", 0, 1),), (("train", 10000, 1),), (("train", True, 1),), (("train", 1, 1), None),
                      (None, ("train", 1, 1)), (("station", "abel", "1"),), (("station", "abel", GREAT),), None, 1,
                      "none"):
            self.refuses(sheet, (CALENDAR, (), (), wrong, STILL, STILL))

    def test_moves(self):
        head, other = (2, 0), (1, 0)
        for wrong in ((), (((), ()),), [(), ()], ((), (), ()), ([], ()), ((), []), None, (None, ()), ((), None),
                      ((head, other), ((other, None), (head, other))), ((other, other), ()),
                      ((list(head),), ((head, other),)),
                      (((2,),), ()), (((2, 0, 0),), ()), ((("2", 0),), ()), (((True, 0),), ()),
                      (((2, False),), ((head, None),)),
                      (((0, 0),), ()), (((10000, 0),), ()), (((2, -1),), ()), (((2, 200),), ()), (((2, "0"),), ()),
                      ((("abel", 0),), ()), ((head, None), ()), ((head,), (head,)), ((head,), ([head, None],)),
                      ((head,), ((head,),)), ((head,), ((head, None, None),)), ((head,), ((head, 0),)),
                      ((head,), ((head, ()),)), ((head,), ((list(head), None),)), ((head,), ((head, list(other)),)),
                      ((head,), ((head, (1, False)),)), ((head,), (((2, False), None),)), ((head,), ((head, False),)),
                      ((head,), ((head, ("abel", 0)),)), ((head,), ((("abel", 0), None),)), ((head,), (None,)),
                      ((head,), ((None, None),)), ((head,), ((head, (1, 200)),)), ((head,), (((2, 200), None),))):
            self.refuses(SHEET, put(NOTHING, (5,), wrong))
        head, other = ("abel", 0), ("cody", 0)
        for wrong in (((other, head), ()), ((head, head), ()), (((1, 0),), ()), ((("Abel", 0),), ()),
                      (((True, 0),), ()),
                      ((("abel", False),), ((head, ("dorn", 0)),)), ((("", 0),), ()), ((("abcdefghijklm", 0),), ()),
                      ((("abel", 200),), ()), ((head,), ((head, ("dorn", False)),)), ((head,), ((head, (1, 0)),))):
            self.refuses(SHEET, put(NOTHING, (4,), wrong))
        self.leads(SHEET, put(NOTHING, (4,), ((head,), ((head, ("dorn", 0)),))), SHEET)


class TestSupplement(Supplements):

    def check(self, sheet, newer):
        told = supplement(sheet, newer)
        self.assertTrue(plain(told))
        self.assertEqual(repr(supplied(sheet, told)), repr(newer))
        calendar, gone, new, cuts, *moves = told
        self.assertEqual((calendar, cuts), (newer[0][0], newer[1]))
        numbers = [number for number, _, _ in newer[0][1]]
        self.assertEqual(gone, tuple(number for number, _, _ in sheet[0][1] if number not in numbers))
        self.assertEqual(new, tuple(train for train in newer[0][1] if train not in sheet[0][1]))
        for side, (struck, puts) in zip(("rows", "columns"), moves):
            begun = [head for _, head in staying_with(sheet, *newer[:2], side)]
            order = order_on(newer, side)
            self.assertEqual(len(struck), len(begun) - most_in_order(begun, order))
            self.assertEqual(struck, tuple(sorted(struck)))
            wanted = [head for head in order if head in struck or head not in begun]
            self.assertEqual(puts, tuple((head, dict(zip(order[1:], order)).get(head)) for head in wanted))
        return told

    def test_drawn_changes(self):
        struck = set()
        for seed, (sheet, plan, cuts) in enumerate(CHANGES):
            newer = following(sheet, plan, cuts)
            struck.add(len(self.check(sheet, newer)[5][0]))
            struck.add(len(self.check(sheet, any_sheet(seed, newer))[5][0]))
            self.check(sheet, told_sheet(plan, cuts))
        self.assertLessEqual({0, 1, 2, 3}, struck)

    def test_a_sheet_and_itself(self):
        for sheet in SHEETS:
            self.assertEqual(supplement(sheet, sheet), (sheet[0][0], (), (), sheet[1], STILL, STILL))
        self.assertEqual(supplement(EMPTY, EMPTY), NOTHING)

    def test_any_two_sheets(self):
        for sheet, newer in zip(SHEETS, SHEETS[1:] + SHEETS[:1]):
            self.check(sheet, newer)
            self.check(sheet, any_sheet(1, newer))
            self.check(sheet, EMPTY)
            self.check(EMPTY, sheet)

    def test_other_orders_of_one_sheet(self):
        for seed, sheet in enumerate(SHEETS):
            other = any_sheet(seed, sheet)
            self.assertEqual(self.check(sheet, other)[:4], (sheet[0][0], (), (), sheet[1]))

    def test_all_orders_of_a_row(self):
        for seed in range(30):
            orders = [1, 2, 3, 4, 5]
            Random(seed).shuffle(orders)
            self.check(reversed_row(tuple(orders)), reversed_row())
            self.check(reversed_row(), reversed_row(tuple(orders)))
        self.assertEqual(supplement(reversed_row((1, 2, 3, 4, 5)), reversed_row((5, 1, 2, 4, 3)))[5][1][0],
                         ((5, 0), None))

    def test_more(self):
        told = self.check(SHEET, told_sheet(NEW, ()))
        self.assertEqual(told[:5], MORE[:5])
        self.assertIn(told[5], (COLUMNS, (((1, 0),), (((1, 0), None), ((3, 0), (1, 0))))))

    def test_one_behind_another(self):
        first = sheet = SHEETS[7]
        told = []
        for _, plan, cuts in CHANGES[100:160]:
            newer = following(sheet, plan, cuts)
            told.append(self.check(sheet, newer))
            sheet = newer
        for value in told:
            first = supplied(first, value)
        self.assertEqual(first, sheet)

    def test_other_calendars_and_days(self):
        days = (CALENDAR, ((1, (0, 5), EARLY[2]), LATE))
        self.assertEqual(self.check(SHEET, told_sheet(days, ()))[2], days[1][:1])
        calendar = ((5, 12, (3,)), OLD[1])
        self.assertEqual(self.check(SHEET, told_sheet(calendar, ()))[:3], (calendar[0], (), ()))


class TestBounds(Supplements):

    def test_great_plans(self):
        for name, plan in GREAT_PLANS.items():
            sheet = told_sheet(plan, cuts_of_plan(plan))
            fewer = (plan[0], plan[1][3:])
            with self.subTest(name=name), in_time(self, name):
                newer = following(sheet, fewer, cuts_of_plan(fewer))
                self.assertIsNone(sheet_error(newer))
                for elder, later in ((sheet, newer), (newer, sheet),
                                     (sheet, sheet[:2] + (sheet[2][::-1], sheet[3][::-1]))):
                    if sheet_error(later) is None:
                        told = supplement(elder, later)
                        self.assertEqual(supplied(elder, told), later)

    def test_200_columns_in_any_order(self):
        plan = long_row()
        cuts = cuts_of_plan(plan)
        columns = [(number, place) for number, _, calls in plan[1] for place in range(len(calls))]
        rows = tuple(("abel", place) for place in range(200))
        sheet = (plan, cuts, rows, tuple(columns))
        Random(5).shuffle(columns)
        other = (plan, cuts, rows, tuple(columns))
        with in_time(self):
            told = supplement(sheet, other)
            self.assertEqual(supplied(sheet, told), other)
            self.assertIsNone(sheet_error(following(other, plan, cuts[-176:])))
        with in_time(self):
            self.refuses(sheet, put(told, (5, 1), told[5][1] * 3), put(told, (5, 1), told[5][1][::-1]))


class TestConventions(Supplements):

    def test_functions_of_supplements(self):
        for sheet, plan, cuts in CHANGES[::30] + [(SHEET, NEW, ()), (EMPTY, NEW, ())]:
            check_conventions(self, following, sheet=sheet, plan=plan, cuts=cuts)
            newer = following(sheet, plan, cuts)
            check_conventions(self, supplement, sheet=sheet, newer=newer)
            check_conventions(self, supplied, sheet=sheet, value=supplement(sheet, newer))
        for value in ODD + (MORE, list(MORE), put(MORE, (1,), (9,)), fresh(MORE)):
            check_conventions(self, supplied, sheet=SHEET, value=value)


if __name__ == "__main__":
    unittest.main()
