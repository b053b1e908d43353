"""What [A2] promises over the whole program: plans go from their texts to sheets, prints, asks and edits, and back."""

import unittest
from random import Random

from risingsheets.asks import trains_from
from risingsheets.benches import Bench
from risingsheets.cutting import are_good, cost, least_cuts
from risingsheets.days import plain_expression
from risingsheets.errors import HasCuts, HasRing, NeedsMore, SheetError
from risingsheets.gathering import gathered, gathering_prices, width
from risingsheets.joining import ahead_of, from_on
from risingsheets.paging import best_paging, paging_prices
from risingsheets.plans import plan_error, stations_of
from risingsheets.plantexts import plan_text, read_plan
from risingsheets.printing import edition_error, edition_text
from risingsheets.reading import read_edition
from risingsheets.rings import ring_of
from risingsheets.sheets import sheet_error, told_cuts, told_sheet
from risingsheets.shells import Shell
from risingsheets.staying import chains, chains_hold, kept
from risingsheets.supplements import following, read_supplement, supplement, supplement_text, supplied
from risingsheets.trees import tree, tree_holds
from tests.calendars import TINY, expression_with, tuples_of
from tests.drawn import CALENDAR, cuts_of_plan, small_plans, some_cuts
from tests.great import GREAT_PLANS, in_time
from tests.reference import lets_none_stand, right_orders
from tests.test_asks import trains_with
from tests.test_benches import drawn_edit
from tests.values import fresh

PLANS = small_plans(40, 7) + [(CALENDAR, ())]


def printed(sheet, size=(9, 3)):
    """The edition of least width and fewest pages."""
    groups = gathered(sheet)
    return (sheet, groups, size, best_paging(sheet, groups, size))


class TestWhole(unittest.TestCase):

    def test_a_days_have_one_plain_expression(self):
        for calendar in TINY[:6]:
            for days in tuples_of(range(calendar[1])):
                told = plain_expression(calendar, days)
                dates = [len(other[1]) + len(other[2]) for other in
                         [expression_with(calendar, base, days) for base in tuples_of(range(8))]]
                self.assertEqual(len(told[1]) + len(told[2]), min(dates))

    def test_b_a_sheet_exactly_if_no_ring_stands(self):
        for seed, plan in enumerate(PLANS[::2]):
            for cuts in some_cuts(plan, seed):
                orders = [right_orders(plan, cuts, side) for side in ("rows", "columns")] if len(cuts) < 6 else None
                if ring_of(plan, cuts) is None:
                    self.assertIsNone(sheet_error(told_sheet(plan, cuts)))
                    self.assertTrue(orders is None or all(orders))
                else:
                    self.assertRaises(HasRing, told_sheet, plan, cuts)
                    self.assertFalse(orders is not None and all(orders))

    def test_c_either_cuts_or_a_tree(self):
        for plan in PLANS:
            for price in (1, 2, 3):
                for most in range(4):
                    try:
                        found = least_cuts(plan, price, most)
                    except NeedsMore:
                        self.assertIs(tree_holds(plan, price, most, tree(plan, price, most)), True)
                    else:
                        self.assertTrue(are_good(plan, found) and cost(found, price) <= most)
                        self.assertRaises(HasCuts, tree, plan, price, most)

    def test_d_a_minute_that_parts_a_plan(self):
        for plan in PLANS:
            minutes = {minute for train in plan[1] for _, minute in train[2]}
            for edge in sorted(minutes):
                sides = [{minute < edge for _, minute in train[2]} for train in plan[1]]
                if all(len(side) == 1 for side in sides):
                    parts = (ahead_of(plan, edge), from_on(plan, edge))
                    common = set(stations_of(parts[0])) & set(stations_of(parts[1]))
                    for price in (1, 2, 3):
                        costs = [self.least(part, price) for part in parts]
                        self.assertLessEqual(min(sum(costs), 4), self.least(plan, price))
                        self.assertLessEqual(self.least(plan, price), sum(costs) + price * len(common))

    def least(self, plan, price):
        """The least cost of good cuts, 4 if it is more than 3."""
        try:
            return cost(least_cuts(plan, price, 3), price)
        except NeedsMore:
            return 4

    def test_e_f_from_a_text_to_a_print_and_back(self):
        for seed, plan in enumerate(PLANS):
            plan = read_plan(plan_text(plan))
            for cuts in some_cuts(plan, seed):
                if lets_none_stand(plan, cuts):
                    edition = printed(told_sheet(plan, cuts))
                    self.assertIsNone(edition_error(edition))
                    across, down = paging_prices(*edition[:3])
                    self.assertEqual(gathering_prices(edition[0])[-1], width(edition[1]))
                    self.assertEqual((across[-1], down[-1] // 10 ** 6), tuple(len(ends) for ends in edition[3]))
                    told = read_edition(edition_text(edition))
                    self.assertEqual(told, edition)
                    self.assertEqual((told[0][0], told_cuts(told[0])), (plan, cuts))

    def test_g_h_what_stays_and_supplements(self):
        for seed, plan in enumerate(PLANS):
            sheet = told_sheet(plan, cuts_of_plan(plan))
            for newer in PLANS[seed + 1:seed + 3]:
                cuts = cuts_of_plan(newer)
                later = following(sheet, newer, cuts)
                for side in ("rows", "columns"):
                    told = chains(sheet, newer, cuts, side)
                    self.assertTrue(chains_hold(sheet, newer, cuts, side, told))
                    self.assertEqual(len(told), len(kept(sheet, newer, cuts, side)))
                told = read_supplement(supplement_text(supplement(sheet, later)))
                self.assertEqual(supplied(sheet, told), later)

    def test_i_edits_that_are_taken_back_leave_nothing_behind_but_what_redo_tells(self):
        for seed, plan in enumerate(PLANS):
            drawn = Random(seed)
            bench = Bench(plan, cuts_of_plan(plan))
            bench.batch(())
            before = (bench.sheet, bench.version, list(bench), [bench.at(version) for version in range(2)])
            sheets = []
            for _ in range(6):
                word, argument = drawn_edit(drawn, bench.plan)
                try:
                    getattr(bench, word)(argument)
                except SheetError:
                    continue
                sheets.append(bench.sheet)
            for _ in sheets:
                bench.undo()
            self.assertEqual((bench.sheet, bench.version, list(bench), [bench.at(version) for version in range(2)]),
                             before)
            self.assertRaises(SheetError, bench.at, 2)
            for sheet in sheets:
                bench.redo()
                self.assertEqual(bench.sheet, sheet)
            self.assertRaises(SheetError, bench.redo)


class TestOnePath(unittest.TestCase):

    def test_from_a_shell_to_asks(self):
        shell = Shell()
        lines = ["calendar 0 14 holidays 3", "1 daily: abel 7:05, bron 7:20", "3 mo+tu: bron 7:10, abel 7:30"]
        self.assertEqual(shell.say("plan " + " / ".join(lines) + " / cuts train 3 1"), "ok")
        plan = read_plan("\n".join(lines))
        bench = Bench(plan, (("train", 3, 1),))
        self.assertEqual(shell.say("heads"), f"{len(bench.sheet[2])} {len(bench.sheet[3])}")
        bench.add((5, (0, 3), (("abel", 460), ("bron", 470))))
        text = edition_text(printed(bench.sheet))
        for day in range(-1, 16):
            for start, goal in (("abel", "bron"), ("bron", "abel")):
                self.assertEqual(trains_from(text, start, goal, day), trains_with(bench.plan, start, goal, day))
        self.assertEqual(trains_from(text, "abel", "bron", 3), ((425, 440, 1), (460, 470, 5)))

    def test_great_plans(self):
        for name, plan in GREAT_PLANS.items():
            with self.subTest(name=name), in_time(self, name):
                sheet = told_sheet(plan, cuts_of_plan(plan))
                text = edition_text(printed(sheet, (24, 40)))
                bench = Bench(read_edition(text)[0][0], sheet[1])
                self.assertEqual(bench.sheet, sheet)
                bench.drop(plan[1][0][0])
                told = read_supplement(supplement_text(bench.supplement_since(0)))
                self.assertEqual(supplied(sheet, told), bench.sheet)

    def test_equal_values_are_as_good(self):
        for plan in PLANS[::5]:
            sheet = told_sheet(fresh(plan), fresh(cuts_of_plan(plan)))
            self.assertEqual(edition_text(printed(fresh(sheet))), edition_text(printed(sheet)))
            self.assertIsNone(plan_error(fresh(sheet[0])))
            self.assertEqual(following(fresh(sheet), fresh(plan), fresh(sheet[1])), sheet)


if __name__ == "__main__":
    unittest.main()
