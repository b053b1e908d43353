"""Part F: groups of columns at even steps, gatherings, and the prices that show the narrowest ones."""

import unittest

from risingsheets.gathering import gathered, gathering_error, gathering_prices, group_at, unfolded, width
from risingsheets.prices import prices_hold
from risingsheets.sheets import sheet_error, told_sheet
from tests.drawn import CALENDAR, plan_of
from tests.great import GREAT_PLANS, in_time
from tests.patterns import (
    EMPTY_SHEET, SINGLE, all_groups, columns_shown, drawn_sheet, even_sheet, gatherings, group_stands, least_width,
    printed, sheet_of,
)
from tests.test_sheets import SHEETS
from tests.values import GREAT, ODD, check_conventions, check_told, plain, put

DRAWN = [drawn_sheet(seed, seed % 14) for seed in range(120)]
EVEN = [even_sheet(many, size) for many in (1, 2, 3, 4, 7, 9, 12, 13) for size in (1, 2, 3, 4)]
EVEN += [even_sheet(15, 5), even_sheet(18, 6)]
FIVE = sheet_of((11, 12, 13, 14, 20), (420, 440, 460, 480, 500), legs=((10, 10),) * 4 + ((15, 10),))
FEW = ((1, 4, 20), SINGLE)
NUMBERS = (1, 2, 3, 4)


def greatest_group(shown, place, size):
    """What group_at has to tell, by trying all steps and times."""
    found = [(times, step) for times in range(3, len(shown) // size + 1) for step in steps_of(shown, place, size)
             if place + size * times <= len(shown) and group_stands(shown, place, (size, times, step))]
    return max(found, default=(0, 0))


def steps_of(shown, place, size):
    """All steps that could be meant: the differences of minutes of a column and the one a block behind it."""
    if place + size >= len(shown) or not shown[place] or not shown[place + size]:
        return []
    return {later - minute for minute in shown[place][2].values() for later in shown[place + size][2].values()}


def stretches_of(sheet):
    """The stretches of a sheet by [F6]."""
    return tuple((place, place + group[0] * group[1], printed(group))
                 for place, groups in enumerate(all_groups(columns_shown(sheet))) for group in groups)


class TestGroups(unittest.TestCase):

    def test_each_size_at_each_place(self):
        seen = set()
        for sheet in DRAWN + EVEN + SHEETS[::7]:
            shown = columns_shown(sheet)
            for place in range(len(shown)):
                for size in NUMBERS:
                    told = group_at(sheet, place, size)
                    self.assertEqual(told, greatest_group(shown, place, size), (sheet, place, size))
                    seen.add((size, told[0] > 0))
                    if told[0]:
                        for times in range(3, told[0] + 1):
                            self.assertIsNone(gathering_error(sheet, (SINGLE,) * place + ((size, times, told[1]),)
                                                              + (SINGLE,) * (len(shown) - place - size * times)))
        self.assertEqual(seen, {(size, stands) for size in NUMBERS for stands in (True, False)})

    def test_times(self):
        for many in range(1, 25):
            sheet = even_sheet(many)
            for place in range(many):
                left = many - place
                self.assertEqual(group_at(sheet, place, 1), (left, 20) if left >= 3 else (0, 0))
                self.assertEqual(group_at(sheet, place, 2), (left // 2, 40) if left >= 6 else (0, 0))
                self.assertEqual(group_at(sheet, place, 4), (left // 4, 80) if left >= 12 else (0, 0))

    def test_two_blocks_and_a_part_of_one_are_too_few(self):
        for size in (2, 3, 4):
            for more in range(size):
                sheet = even_sheet(2 * size + more, size)
                self.assertEqual(group_at(sheet, 0, size), (0, 0))
                sheet = even_sheet(3 * size + more, size)
                self.assertEqual(group_at(sheet, 0, size), (3, 20))

    def test_a_train_that_is_cut(self):
        trains = tuple((number, (0,), (("abel", 20 * number), ("bron", 20 * number + 10))) for number in range(1, 8))
        whole = told_sheet((CALENDAR, trains), ())
        self.assertEqual(group_at(whole, 0, 1), (7, 20))
        for number in range(1, 8):
            sheet = told_sheet((CALENDAR, trains), (("train", number, 1),))
            cut = number - 1
            for place in range(8):
                left = cut - place if place <= cut else 8 - place if place >= cut + 2 else 0
                self.assertEqual(group_at(sheet, place, 1), (left, 20) if left >= 3 else (0, 0))

    def test_a_station_that_is_cut(self):
        trains = tuple((number, (0,), (("abel", 20 * number), ("bron", 20 * number + 10))) for number in range(1, 8))
        for gap in range(1, 7):
            sheet = told_sheet((CALENDAR, trains), (("station", "abel", gap),))
            self.assertEqual(group_at(sheet, 0, 1), (gap, 20) if gap >= 3 else (0, 0))
            self.assertEqual(group_at(sheet, gap, 1), (7 - gap, 20) if gap <= 4 else (0, 0))

    def test_other_days(self):
        for odd in range(5):
            days = [(0, 2) if place == odd else (0, 1) for place in range(5)]
            sheet = sheet_of((1, 2, 3, 4, 5), (10, 20, 30, 40, 50), days=days)
            self.assertEqual(group_at(sheet, 0, 1), (odd, 10) if odd >= 3 else (0, 0))
        mixed = sheet_of(range(1, 7), range(10, 70, 10), days=[(0,), (1,)] * 3)
        self.assertEqual([group_at(mixed, 0, size) for size in NUMBERS], [(0, 0), (3, 20), (0, 0), (0, 0)])

    def test_other_rows(self):
        for odd in range(5):
            for leg in ((10,), (), (10, 10)):
                legs = [leg if place == odd else (10, 10) for place in range(5)]
                sheet = sheet_of((1, 2, 3, 4, 5), (10, 20, 30, 40, 50), legs=legs)
                same = 5 if leg == (10, 10) else odd
                self.assertEqual(group_at(sheet, 0, 1), (same, 10) if same >= 3 else (0, 0))
        plan = plan_of((("abel", 10),), (("abel", 20),), (("bron", 30),))
        self.assertEqual(group_at(told_sheet(plan, ()), 0, 1), (0, 0))

    def test_uneven_minutes_and_numbers(self):
        self.assertEqual(group_at(sheet_of((1, 2, 3, 4), (10, 20, 30, 41)), 0, 1), (3, 10))
        self.assertEqual(group_at(sheet_of((1, 2, 3, 4), (10, 20, 31, 41)), 0, 1), (0, 0))
        self.assertEqual(group_at(sheet_of((1, 2, 3, 5), (10, 20, 30, 40)), 0, 1), (3, 10))
        self.assertEqual(group_at(sheet_of((1, 3, 5, 7), (10, 20, 30, 40)), 0, 1), (4, 10))
        self.assertEqual(group_at(sheet_of((1, 2, 4, 5), (10, 20, 30, 40)), 0, 1), (0, 0))
        self.assertEqual(group_at(sheet_of((4, 3, 2, 1), (10, 20, 30, 40)), 0, 1), (0, 0))
        legs = ((10, 10),) * 3 + ((10, 11),)
        self.assertEqual(group_at(sheet_of((1, 2, 3, 4), (10, 20, 30, 40), legs=legs), 0, 1), (3, 10))

    def test_step_nothing(self):
        plan = plan_of(*[(("abel", 5), ("bron", 9))] * 6)
        sheet = told_sheet(plan, ())
        for size in NUMBERS:
            for place in range(6):
                self.assertEqual(group_at(sheet, place, size), (0, 0))
        plan = plan_of(*[(("abel", 5 + place // 2),) for place in range(8)])
        sheet = told_sheet(plan, ())
        self.assertEqual([group_at(sheet, 0, size) for size in NUMBERS], [(0, 0), (4, 1), (0, 0), (0, 0)])
        self.assertEqual([group_at(sheet, 1, size) for size in NUMBERS], [(0, 0), (3, 1), (0, 0), (0, 0)])

    def test_columns_of_which_the_second_block_alone_differs(self):
        sheet = sheet_of((1, 2, 3, 4, 5, 7), (10, 12, 20, 22, 30, 32))
        self.assertEqual(group_at(sheet, 0, 2), (0, 0))
        sheet = sheet_of((1, 2, 3, 4, 5, 6), (10, 12, 20, 22, 30, 33))
        self.assertEqual(group_at(sheet, 0, 2), (0, 0))


class TestGatheringErrors(unittest.TestCase):

    def tells(self, expected, sheet, *values):
        for value in values:
            check_told(self, expected, gathering_error, sheet, value)

    def test_all_gatherings_of_small_sheets(self):
        for sheet in [sheet for sheet in DRAWN + EVEN if len(sheet[3]) <= 9]:
            for value in gatherings(all_groups(columns_shown(sheet)))[:60]:
                self.tells(None, sheet, value)

    def test_singles(self):
        for sheet in DRAWN + EVEN + SHEETS:
            many = len(sheet[3])
            self.tells(None, sheet, (SINGLE,) * many)
            self.tells(("group", many), sheet, (SINGLE,) * (many + 1), (SINGLE,) * (many + 1000))
            if many:
                self.tells("end", sheet, (SINGLE,) * (many - 1))

    def test_no_columns(self):
        self.tells(None, EMPTY_SHEET, ())
        self.tells(("group", 0), EMPTY_SHEET, (SINGLE,), ((1, 3, 1),), ((0, 0, 0),))
        self.tells("form", EMPTY_SHEET, [], None, (None,))

    def test_form(self):
        for value in ODD:
            if value != ():
                self.tells("form", FIVE, value)
            self.tells("form", FIVE, (value,), FEW + (value,), (value,) + FEW)
            if not isinstance(value, int) or isinstance(value, bool):
                for place in range(3):
                    self.tells("form", FIVE, put(FEW, (0, place), value), put(FEW, (1, place), value))
        self.tells("end", FIVE, ())
        self.tells("form", FIVE, list(FEW), ([1, 4, 20], SINGLE), ((1, 4), SINGLE), ((1, 4, 20, 0), SINGLE),
                   ((1, 4, "20"), SINGLE), ((1, 4, 20), (True, 1, 0)), ((1, 4, 20), (1, 1, False)), (9, 9, 9),
                   ((1, 4, 40), None), FEW + ((),))

    def test_groups_that_are_none(self):
        for group in ((0, 4, 20), (-1, 4, 20), (5, 4, 20), (1, 2, 20), (1, 1, 20), (1, 0, 20), (1, -4, 20), (1, 4, 0),
                      (1, 4, -20), (2, 1, 0), (1, 1, 1), (1, 3, 0), (GREAT, 4, 20), (1, GREAT, 20), (1, 4, GREAT),
                      (1, 4, 19), (1, 5, 20), (2, 3, 40), (1, 24, 20), (4, 1, 20), (2, 2, 40), (0, 0, 0), (1, 0, 0),
                      (-1, -4, 20), (1, 4, 40)):
            self.tells(("group", 0), FIVE, (group,), (group, SINGLE), (group,) * 3)
            self.tells(("group", 1), FIVE, (SINGLE, group), (SINGLE, group, SINGLE))

    def test_blocks_of_more_columns_than_may_be(self):
        for size in (5, 6, 7, 8):
            for sheet in (even_sheet(24), even_sheet(24, size, step=30)):
                step = 20 * size if sheet == even_sheet(24) else 30
                self.assertTrue(group_stands(columns_shown(sheet), 0, (size, 3, step)))
                self.tells(("group", 0), sheet, ((size, 3, step),) + (SINGLE,) * (24 - 3 * size))
        self.assertEqual(width(gathered(even_sheet(15, 5))), 15)

    def test_places_of_groups(self):
        self.tells(None, FIVE, FEW, (SINGLE, (1, 3, 20), SINGLE), ((1, 3, 20), SINGLE, SINGLE))
        self.tells(("group", 1), FIVE, (SINGLE, (1, 4, 20)), ((1, 3, 20), (1, 3, 20)))
        self.tells(("group", 2), FIVE, (SINGLE, SINGLE, (1, 3, 20)), FEW + (SINGLE,), (SINGLE, (1, 3, 20), (1, 3, 20)))
        self.tells("end", FIVE, FEW[:1], (SINGLE, (1, 3, 20)), (SINGLE,) * 4)

    def test_groups_of_trains_that_are_cut(self):
        trains = tuple((number, (0,), (("abel", 20 * number), ("bron", 20 * number + 10))) for number in range(1, 5))
        sheet = told_sheet((CALENDAR, trains), tuple(("train", number, 1) for number in range(1, 5)))
        self.tells(None, sheet, (SINGLE,) * 8)
        for size in NUMBERS:
            for step in (10, 20):
                self.tells(("group", 0), sheet, ((size, 3, step),))

    def test_spoilt_gatherings(self):
        for sheet in DRAWN + EVEN:
            shown = columns_shown(sheet)
            groups = gathered(sheet)
            for place, group in enumerate(groups):
                begin = sum(each[0] * each[1] for each in groups[:place])
                size, times, step = group
                for wrong in ((size + 1, times, step), (size, times + 1, step), (size, times, step + 1),
                              (size, times, step - 1)):
                    right = 1 <= wrong[0] <= 4 and wrong[1] >= 3 and group_stands(shown, begin, wrong)
                    told = gathering_error(sheet, put(groups, (place,), wrong))
                    self.assertEqual(told == ("group", place), not right, (sheet, groups, place, wrong))


class TestWidths(unittest.TestCase):

    def test_width(self):
        self.assertEqual([width(value) for value in ((), (SINGLE,), (SINGLE,) * 5)], [0, 1, 5])
        for size in NUMBERS:
            for times in (3, 4, 200):
                self.assertEqual(width(((size, times, 7),)), 2 * size + 1)
                self.assertEqual(width((SINGLE, (size, times, 7), (1, 3, 1))), 2 * size + 5)

    def test_unfolded(self):
        self.assertEqual(unfolded(FIVE, FEW), ((0, 1, 2, 3), (4,)))
        self.assertEqual(unfolded(FIVE, (SINGLE, (1, 3, 20), SINGLE)), ((0,), (1, 2, 3), (4,)))
        self.assertEqual(unfolded(EMPTY_SHEET, ()), ())
        for sheet in DRAWN + EVEN:
            for value in (gathered(sheet), (SINGLE,) * len(sheet[3])):
                told = unfolded(sheet, value)
                self.assertEqual(sum(told, ()), tuple(range(len(sheet[3]))))
                self.assertEqual([len(places) for places in told], [size * times for size, times, _ in value])


class TestGathered(unittest.TestCase):

    def test_against_all_gatherings(self):
        for sheet in [sheet for sheet in DRAWN + EVEN + SHEETS[::3] if len(sheet[3]) <= 10]:
            value = gathered(sheet)
            self.assertIsNone(gathering_error(sheet, value))
            widths = [sum(printed(group) for group in each) for each in gatherings(all_groups(columns_shown(sheet)))]
            self.assertEqual(width(value), min(widths))

    def test_least_widths(self):
        seen = set()
        for sheet in DRAWN + EVEN + SHEETS:
            value = gathered(sheet)
            self.assertIsNone(gathering_error(sheet, value))
            self.assertTrue(plain(value))
            self.assertEqual(width(value), least_width(all_groups(columns_shown(sheet))))
            seen |= {group[0] for group in value if group != SINGLE}
        self.assertEqual(seen, {1, 2, 3, 4})

    def test_prices_are_those_of_the_stretches(self):
        for sheet in DRAWN + EVEN + SHEETS[::3] + [EMPTY_SHEET]:
            prices = gathering_prices(sheet)
            stretches = stretches_of(sheet)
            self.assertTrue(plain(prices))
            self.assertIs(prices_hold(stretches, len(sheet[3]), width(gathered(sheet)), prices), True)

    def test_no_columns(self):
        self.assertEqual((gathered(EMPTY_SHEET), gathering_prices(EMPTY_SHEET)), ((), (0,)))

    def test_narrower_of_two_ways(self):
        self.assertEqual(gathered(even_sheet(24)), ((1, 24, 20),))
        # Three columns have the width 3 as a group and as singles.
        self.assertEqual(width(gathered(even_sheet(3))), 3)
        self.assertEqual(width(gathered(even_sheet(4))), 3)
        self.assertEqual(gathered(even_sheet(24, 4)), ((4, 6, 20),))


class TestBounds(unittest.TestCase):

    def test_great_sheets(self):
        for name, plan in GREAT_PLANS.items():
            cuts = tuple(("train", number, gap) for number, _, calls in plan[1] for gap in range(1, len(calls)))
            sheet = told_sheet(plan, cuts)
            with in_time(self, name):
                value = gathered(sheet)
                self.assertIsNone(gathering_error(sheet, value))
                gathering_prices(sheet)
                group_at(sheet, 0, 1)
                unfolded(sheet, value)
                self.assertEqual(gathering_error(sheet, ((1, 3, 1),) * 1300), ("group", 0))

    def test_a_great_even_sheet(self):
        rows = [tuple((name, 20 * k + 5 * place) for place, name in enumerate("abcdefgh")) for k in range(24)]
        sheet = told_sheet(plan_of(*rows), ())
        self.assertIsNone(sheet_error(sheet))
        with in_time(self):
            self.assertEqual(gathered(sheet), ((1, 24, 20),))
            self.assertEqual([group_at(sheet, 0, size) for size in NUMBERS], [(24, 20), (12, 40), (8, 60), (6, 80)])


class TestConventions(unittest.TestCase):

    def test_functions_of_gathering(self):
        for sheet in DRAWN[::12] + [EMPTY_SHEET, FIVE]:
            check_conventions(self, gathered, sheet=sheet)
            check_conventions(self, gathering_prices, sheet=sheet)
            value = gathered(sheet)
            check_conventions(self, gathering_error, sheet=sheet, value=value)
            check_conventions(self, width, gathering=value)
            check_conventions(self, unfolded, sheet=sheet, gathering=value)
            for size in NUMBERS if sheet[3] else ():
                check_conventions(self, group_at, sheet=sheet, place=0, size=size)
        for value in ODD:
            check_conventions(self, gathering_error, sheet=FIVE, value=value)


if __name__ == "__main__":
    unittest.main()
