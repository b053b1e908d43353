"""Part G: pagings, columns that run on, best pagings, and the prices that show them."""

import unittest
from itertools import combinations

from risingsheets.bounds import PAGE
from risingsheets.errors import SheetError, TooWide
from risingsheets.gathering import gathered
from risingsheets.paging import best_paging, paging_error, paging_prices, run_on
from risingsheets.prices import prices_hold
from risingsheets.sheets import told_sheet
from tests.drawn import NAMES, plan_of
from tests.great import GREAT_PLANS, in_time
from tests.patterns import EMPTY_SHEET, SINGLE, drawn_sheet, even_sheet, printed, sheet_of
from tests.reference import head_with, marks_of
from tests.test_sheets import SHEETS
from tests.values import GREAT, ODD, check_conventions, check_told, plain, put

FIVE = sheet_of((11, 12, 13, 14, 20), (420, 440, 460, 480, 500), legs=((10,),) * 4 + ((15,),))
FEW = ((1, 4, 20), SINGLE)
PAIRS = even_sheet(6, 2)
TALL = told_sheet(plan_of(*[((NAMES[k], 10 * k), (NAMES[k + 1], 10 * k + 5)) for k in range(8)],
                          ((NAMES[0], 200), (NAMES[8], 210))), ())

SIZES = ((3, 1), (3, 2), (4, 3), (5, 2), (9, 4), (24, 40))


def some_sheets():
    """Sheets with their gatherings of least width, and with singles alone."""
    sheets = SHEETS[::3] + [drawn_sheet(seed, seed % 13) for seed in range(40)] + [FIVE, PAIRS, TALL, EMPTY_SHEET]
    return [(sheet, gathering) for sheet in sheets for gathering in (gathered(sheet), (SINGLE,) * len(sheet[3]))]


PAGED = some_sheets()


def all_ends(widths, room):
    """All tuples of ends between which widths find room."""
    many = len(widths)
    if many == 0:
        return [()]
    rows = [chosen + (many,) for inner in range(many) for chosen in combinations(range(1, many), inner)]
    return [ends for ends in rows
            if all(sum(widths[begin:end]) <= room for begin, end in zip((0,) + ends, ends))]


def crossed(sheet, end):
    """How many columns have calls in rows on both sides of an end."""
    plan, cuts, rows, _ = sheet
    sides = {}
    for mark in marks_of(plan):
        row = rows.index(head_with(plan, cuts, "station", mark))
        sides.setdefault(head_with(plan, cuts, "train", mark), set()).add(row < end)
    return sum(len(each) == 2 for each in sides.values())


def first_wrong(widths, room, ends):
    """The place that paging_error has to tell of ends on one side, None if they are right."""
    for place, end in enumerate(ends):
        begin = ends[place - 1] if place else 0
        if end <= begin or end > len(widths) or sum(widths[max(begin, 0):end]) > room:
            return place
    return len(ends) if (ends or (0,))[-1] != len(widths) else None


def wanted_error(sheet, gathering, size, value):
    across = first_wrong([printed(group) for group in gathering], size[0], value[0])
    if across is not None:
        return ("across", across)
    down = first_wrong([1] * len(sheet[2]), size[1], value[1])
    return None if down is None else ("down", down)


class TestPagingErrors(unittest.TestCase):

    def tells(self, expected, sheet, gathering, size, *values):
        for value in values:
            check_told(self, expected, paging_error, sheet, gathering, size, value)

    def test_form(self):
        right = ((2,), (2,))
        self.tells(None, FIVE, FEW, (4, 2), right)
        for value in ODD:
            self.tells("form", FIVE, FEW, (4, 2), value, (value,), right + (value,))
            if not isinstance(value, int) or isinstance(value, bool):
                for place in (0, 1):
                    self.tells("form", FIVE, FEW, (4, 2), put(right, (place, 0), value))
            if not isinstance(value, tuple):
                self.tells("form", FIVE, FEW, (4, 2), (value, (2,)), ((2,), value))
        self.tells("form", FIVE, FEW, (4, 2), list(right), ([2], (2,)), ((2,), [2]), right[:1], right * 2, 2, (2, 2),
                   ((True, 2), (2,)), ((2,), (True, 2)), (("2",), (2,)), ((9,), (None,)), ((), None), ((2,),))

    def test_each_wrong_end(self):
        self.tells(None, FIVE, FEW, (4, 2), ((1, 2), (1, 2)), ((2,), (1, 2)), ((1, 2), (2,)))
        self.tells(("across", 0), FIVE, FEW, (4, 2), ((), (2,)), ((0, 2), (2,)), ((-1, 2), (2,)), ((3,), (2,)),
                   ((GREAT,), (2,)), ((-GREAT,), ()), ((), ()))
        self.tells(("across", 1), FIVE, FEW, (4, 2), ((1,), (2,)), ((1, 1, 2), (2,)), ((2, 2), (2,)), ((2, 1), (2,)),
                   ((2, 3), (2,)), ((1, 3), (2,)), ((1, 0), (2,)))
        self.tells(("across", 2), FIVE, FEW, (4, 2), ((1, 2, 2), (2,)), ((1, 2, 3), (2,)), ((1, 2, GREAT), ()))
        self.tells(("down", 0), FIVE, FEW, (4, 2), ((2,), ()), ((2,), (0, 2)), ((2,), (-1, 2)), ((2,), (3,)))
        self.tells(("down", 1), FIVE, FEW, (4, 2), ((2,), (1,)), ((2,), (1, 1, 2)), ((2,), (2, 2)), ((2,), (2, 1)))
        self.tells(("across", 0), FIVE, FEW, (3, 1), ((2,), (1, 2)))
        self.tells(("down", 0), FIVE, FEW, (4, 1), ((2,), (2,)))
        self.tells(("down", 1), TALL, (SINGLE,) * 9, (9, 4), ((9,), (4, 9)))

    def test_no_groups_and_no_rows(self):
        for size in SIZES:
            self.tells(None, EMPTY_SHEET, (), size, ((), ()))
            self.tells(("across", 0), EMPTY_SHEET, (), size, ((0,), ()), ((1,), ()), ((-1,), (0,)))
            self.tells(("down", 0), EMPTY_SHEET, (), size, ((), (0,)), ((), (1,)))

    def test_spoilt_pagings(self):
        seen = set()
        for place, (sheet, gathering) in enumerate(PAGED):
            groups, rows = len(gathering), len(sheet[2])
            size = SIZES[place % len(SIZES)]
            sides = [(tuple(range(step, many, step)) + (many,) if many else ()) for many in (groups, rows)
                     for step in (1, 2, 3)]
            for across in sides[:3]:
                for down in sides[3:]:
                    for value in ((across, down), (across[:-1], down), (across, down[:-1]), (across[1:], down[1:]),
                                  (across + across[-1:], down), (across, down + (rows + 1,)), (across[::-1], down)):
                        error = wanted_error(sheet, gathering, size, value)
                        seen.add(error and error[0])
                        self.tells(error, sheet, gathering, size, value)
        self.assertEqual(seen, {None, "across", "down"})

    def test_all_pagings_are_right(self):
        for place, (sheet, gathering) in enumerate(PAGED):
            widths = [printed(group) for group in gathering]
            for size in SIZES:
                if len(widths) <= 8 and len(sheet[2]) <= 8:
                    for across in all_ends(widths, size[0])[:8]:
                        for down in all_ends([1] * len(sheet[2]), size[1])[:8]:
                            self.assertIsNone(paging_error(sheet, gathering, size, (across, down)))


class TestRunOn(unittest.TestCase):

    def test_each_end(self):
        for sheet, _ in PAGED[::2]:
            rows = len(sheet[2])
            for end in range(1, rows + 1):
                self.assertEqual(run_on(sheet, end), crossed(sheet, end))
            if rows:
                self.assertEqual(run_on(sheet, rows), 0)

    def test_columns_with_one_call_never_run_on(self):
        sheet = told_sheet(plan_of((("abel", 5),), (("bron", 6),), (("cole", 7),)), ())
        self.assertEqual([run_on(sheet, end) for end in (1, 2, 3)], [0, 0, 0])

    def test_a_column_runs_on_over_rows_in_which_it_has_no_call(self):
        sheet = told_sheet(plan_of((("abel", 5), ("cole", 9)), (("abel", 6), ("bron", 7)), (("bron", 8),)), ())
        self.assertEqual(sheet[2], (("abel", 0), ("bron", 0), ("cole", 0)))
        self.assertEqual([run_on(sheet, end) for end in (1, 2, 3)], [2, 1, 0])
        self.assertEqual([run_on(TALL, end) for end in range(1, 10)], [2] * 8 + [0])


class TestBestPaging(unittest.TestCase):

    def test_against_all_pagings(self):
        tried = 0
        for sheet, gathering in PAGED:
            widths = [printed(group) for group in gathering]
            rows = len(sheet[2])
            over = [crossed(sheet, end) for end in range(rows + 1)]
            for size in SIZES if rows <= 9 and len(widths) <= 10 else ():
                if max(widths, default=0) > size[0]:
                    continue
                tried += 1
                across, down = best_paging(sheet, gathering, size)
                self.assertIsNone(paging_error(sheet, gathering, size, (across, down)))
                self.assertEqual(len(across), min(len(ends) for ends in all_ends(widths, size[0])))
                ends, runs = min((len(ends), sum(over[end] for end in ends)) for ends in all_ends([1] * rows, size[1]))
                self.assertEqual((len(down), sum(over[end] for end in down)), (ends, runs))
                prices = paging_prices(sheet, gathering, size)
                self.assertEqual(prices[0][-1], len(across))
                self.assertEqual(prices[1][-1], PAGE * ends + runs)
        self.assertGreater(tried, 300)

    def test_fewest_columns_run_on(self):
        plan = plan_of((("abel", 10), ("bron", 20)), (("bron", 30), ("cern", 40)), (("bron", 50), ("cern", 60)),
                       (("cern", 70), ("dorn", 80)))
        sheet = told_sheet(plan, ())
        self.assertEqual([run_on(sheet, end) for end in (1, 2, 3, 4)], [1, 2, 1, 0])
        self.assertEqual(best_paging(sheet, (SINGLE,) * 4, (4, 3))[1] in ((1, 4), (3, 4)), True)
        self.assertEqual(best_paging(sheet, (SINGLE,) * 4, (4, 2))[1], (2, 4))
        self.assertEqual(paging_prices(sheet, (SINGLE,) * 4, (4, 2))[1][-1], 2 * PAGE + 2)

    def test_prices_are_those_of_the_stretches(self):
        for place, (sheet, gathering) in enumerate(PAGED):
            widths = [printed(group) for group in gathering]
            wide, high = SIZES[place % len(SIZES)]
            if max(widths, default=0) > wide:
                continue
            rows = len(sheet[2])
            prices = paging_prices(sheet, gathering, (wide, high))
            self.assertTrue(plain(prices))
            across = tuple((begin, end, 1) for begin in range(len(widths)) for end in range(begin + 1, len(widths) + 1)
                           if sum(widths[begin:end]) <= wide)
            down = tuple((begin, end, PAGE + crossed(sheet, end)) for begin in range(rows)
                         for end in range(begin + 1, min(rows, begin + high) + 1))
            self.assertIs(prices_hold(across, len(widths), prices[0][-1], prices[0]), True)
            self.assertIs(prices_hold(down, rows, prices[1][-1], prices[1]), True)

    def test_no_groups_and_no_rows(self):
        for size in SIZES:
            self.assertEqual(best_paging(EMPTY_SHEET, (), size), ((), ()))
            self.assertEqual(paging_prices(EMPTY_SHEET, (), size), ((0,), (0,)))


class TestTooWide(unittest.TestCase):

    def refuses(self, sheet, gathering, size, place):
        for function in (best_paging, paging_prices):
            with self.subTest(function=function.__name__, place=place), self.assertRaises(TooWide) as caught:
                function(sheet, gathering, size)
            self.assertEqual(repr(caught.exception.place), repr(place))
            self.assertIsInstance(caught.exception, SheetError)
            self.assertIsInstance(caught.exception, ValueError)

    def test_the_first_group_that_is_too_wide(self):
        sheet = even_sheet(24, 2)
        blocks, narrow = (2, 3, 20), (SINGLE,) * 6
        for place in range(4):
            gathering = sum([(blocks,) if each >= place else narrow for each in range(4)], ())
            for wide in (3, 4):
                self.refuses(sheet, gathering, (wide, 5), 6 * place)
            self.assertEqual(paging_error(sheet, gathering, (5, 5), best_paging(sheet, gathering, (5, 5))), None)

    def test_each_width(self):
        for size, wide in ((2, 5), (3, 7), (4, 9)):
            sheet = even_sheet(3 * size, size)
            gathering = ((size, 3, 20),)
            self.assertEqual(best_paging(sheet, gathering, (wide, 9))[0], (1,))
            self.refuses(sheet, gathering, (wide - 1, 9), 0)
        self.assertEqual(best_paging(even_sheet(3), ((1, 3, 20),), (3, 9))[0], (1,))


class TestBounds(unittest.TestCase):

    def test_great_sheets(self):
        for name, plan in GREAT_PLANS.items():
            cuts = tuple(("train", number, gap) for number, _, calls in plan[1] for gap in range(1, len(calls)))
            sheet = told_sheet(plan, cuts)
            for gathering in (gathered(sheet), (SINGLE,) * len(sheet[3])):
                for size in ((3, 1), (24, 40), (9, 3)):
                    with self.subTest(name=name, size=size), in_time(self, name, size):
                        value = best_paging(sheet, gathering, size)
                        self.assertIsNone(paging_error(sheet, gathering, size, value))
                        paging_prices(sheet, gathering, size)
                        run_on(sheet, 1)

    def test_two_hundred_rows(self):
        plan = plan_of(*[tuple(("abel", 8 * k + place) for place in range(8)) for k in range(24)])
        cuts = tuple(("station", "abel", gap) for gap in range(1, 192))
        sheet = told_sheet(plan, cuts)
        self.assertEqual(len(sheet[2]), 192)
        for high in (1, 7, 40):
            with in_time(self, high):
                down = best_paging(sheet, (SINGLE,) * 24, (24, high))[1]
                self.assertEqual(len(down), -(-192 // high))
                prices = paging_prices(sheet, (SINGLE,) * 24, (24, high))[1]
                self.assertEqual(prices[-1], PAGE * len(down) + sum(run_on(sheet, end) for end in down))
        # Ends between two trains part none of them.
        self.assertEqual(paging_prices(sheet, (SINGLE,) * 24, (24, 8))[1][-1], 24 * PAGE)


class TestConventions(unittest.TestCase):

    def test_functions_of_paging(self):
        for place, (sheet, gathering) in enumerate(PAGED[::6] + PAGED[-8:]):
            size = SIZES[place % len(SIZES)]
            check_conventions(self, best_paging, sheet=sheet, gathering=gathering, size=size)
            check_conventions(self, paging_prices, sheet=sheet, gathering=gathering, size=size)
            check_conventions(self, paging_error, sheet=sheet, gathering=gathering, size=size, value=((1,), (1,)))
            if sheet[2]:
                check_conventions(self, run_on, sheet=sheet, end=1)
        for value in ODD:
            check_conventions(self, paging_error, sheet=FIVE, gathering=FEW, size=(4, 2), value=value)


if __name__ == "__main__":
    unittest.main()
