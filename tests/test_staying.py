"""Part I: what stays of a sheet, which pairs are turned, how many are kept, and the chains that show it."""

import unittest
from bisect import bisect
from itertools import combinations, permutations
from random import Random

from risingsheets.sheets import sheet_error, told_sheet
from risingsheets.staying import chains, chains_hold, kept, staying, turned
from tests.changes import CHANGES, SIDES, most_apart, staying_with, turned_with
from tests.drawn import CALENDAR, cuts_of_plan, plan_of
from tests.great import GREAT_PLANS, in_time
from tests.values import ODD, check_conventions, plain

# Two trains that have nothing in common; a third one that one of them is ahead of, and that is ahead of the other one.
EARLY, LATE = (1, (0,), (("abel", 10), ("bron", 20))), (2, (0,), (("cody", 5), ("dorn", 9)))
THIRD = (3, (0,), (("cody", 3), ("bron", 25)))
OLD, NEW = (CALENDAR, (EARLY, LATE)), (CALENDAR, (EARLY, LATE, THIRD))
SHEET = told_sheet(OLD, ())

# Five columns that a station without cuts puts in their order, all of them the other way about in the elder sheet.
ROW = plan_of(*[(("abel", 10 * k),) for k in range(5)])
ROW_CUTS = cuts_of_plan(ROW)


def reversed_row(order=(5, 4, 3, 2, 1)):
    """The elder sheet of ROW with all cuts, and its columns in this order."""
    return (ROW, ROW_CUTS, tuple(("abel", place) for place in range(5)), tuple((number, 0) for number in order))


def same(*heads):
    return tuple((head, head) for head in heads)


def long_row():
    """200 calls at one station at unlike minutes."""
    return plan_of(*[tuple(("abel", k + 24 * place) for place in range(9 if k < 8 else 8)) for k in range(24)])


class TestStaying(unittest.TestCase):

    def stays(self, sheet, plan, cuts, columns, rows):
        self.assertIsNone(sheet_error(sheet))
        self.assertEqual(staying(sheet, plan, cuts, "columns"), columns)
        self.assertEqual(staying(sheet, plan, cuts, "rows"), rows)

    def test_drawn_changes(self):
        for sheet, plan, cuts in CHANGES:
            for side in SIDES:
                told = staying(sheet, plan, cuts, side)
                self.assertEqual(told, staying_with(sheet, plan, cuts, side))
                self.assertTrue(plain(told))

    def test_all_stays_in_the_plan_itself(self):
        for sheet, _, _ in CHANGES:
            self.stays(sheet, *sheet[:2], same(*sheet[3]), same(*sheet[2]))
        self.stays(((CALENDAR, ()), (), (), ()), NEW, (), (), ())
        self.stays(SHEET, (CALENDAR, ()), (), (), ())

    def test_trains_new_and_gone(self):
        self.stays(SHEET, NEW, (), same((2, 0), (1, 0)), same(("dorn", 0), ("abel", 0)))
        self.stays(told_sheet(NEW, ()), OLD, (), same((1, 0), (2, 0)), same(("dorn", 0), ("abel", 0)))
        self.stays(SHEET, (CALENDAR, (LATE,)), (), same((2, 0)), same(("cody", 0), ("dorn", 0)))

    def test_the_order_is_that_of_the_elder_sheet(self):
        sheet = SHEET[:2] + ((("abel", 0), ("cody", 0), ("bron", 0), ("dorn", 0)), ((1, 0), (2, 0)))
        self.stays(sheet, NEW, (), same((1, 0), (2, 0)), same(("abel", 0), ("dorn", 0)))

    def test_other_days(self):
        other = (CALENDAR, ((1, (0, 1), EARLY[2]), LATE))
        self.stays(SHEET, other, (), same((2, 0)), same(*SHEET[2]))

    def test_other_calendars(self):
        self.stays(SHEET, ((0, 1, ()), OLD[1]), (), same(*SHEET[3]), same(*SHEET[2]))
        self.stays(SHEET, ((0, 1, (0,)), OLD[1]), (), same(*SHEET[3]), same(*SHEET[2]))

    def test_other_minutes(self):
        other = (CALENDAR, ((1, (0,), (("abel", 11), ("bron", 20))), LATE))
        self.stays(SHEET, other, (), same((2, 0)), same(("cody", 0), ("dorn", 0), ("bron", 0)))

    def test_other_stations(self):
        other = (CALENDAR, ((1, (0,), (("abel", 10), ("elm", 20))), LATE))
        self.stays(SHEET, other, (), same((2, 0)), same(("cody", 0), ("dorn", 0), ("abel", 0)))

    def test_calls_more_and_fewer(self):
        more = (CALENDAR, ((1, (0,), EARLY[2] + (("elm", 30),)), LATE))
        self.stays(SHEET, more, (), same((2, 0)), same(*SHEET[2]))
        self.stays(told_sheet(more, ()), OLD, (), same((2, 0)), same(*SHEET[2]))
        fewer = (CALENDAR, ((1, (0,), EARLY[2][:1]), LATE))
        self.stays(SHEET, fewer, (), same((2, 0)), same(("cody", 0), ("dorn", 0), ("abel", 0)))

    def test_other_numbers(self):
        other = (CALENDAR, (LATE, (3, EARLY[1], EARLY[2])))
        self.stays(SHEET, other, (), same((2, 0)), same(("cody", 0), ("dorn", 0)))

    def test_other_cuts(self):
        plan = plan_of((("abel", 10), ("bron", 20), ("cobb", 30)), (("abel", 15),))
        sheet = told_sheet(plan, (("train", 1, 1),))
        self.stays(sheet, plan, (), same((2, 0)), same(("abel", 0), ("bron", 0), ("cobb", 0)))
        self.stays(sheet, plan, (("train", 1, 2),), same((2, 0)), same(("abel", 0), ("bron", 0), ("cobb", 0)))
        self.stays(sheet, plan, (("train", 1, 1), ("train", 1, 2)), same((1, 0), (2, 0)),
                   same(("abel", 0), ("bron", 0), ("cobb", 0)))
        self.stays(sheet, plan, (("station", "abel", 1), ("train", 1, 1)), same((1, 0), (2, 0), (1, 1)),
                   same(("bron", 0), ("cobb", 0)))

    def test_parts_that_begin_at_another_place(self):
        elder = plan_of((("abel", 10), ("bron", 20)), (("bron", 15),))
        newer = plan_of((("cobb", 5), ("abel", 10), ("bron", 20)), (("bron", 15),), (("bron", 1),))
        sheet = told_sheet(elder, ())
        self.stays(sheet, newer, (("station", "bron", 1), ("train", 1, 1)), (((2, 0), (2, 0)), ((1, 0), (1, 1))),
                   ((("abel", 0), ("abel", 0)), (("bron", 0), ("bron", 1))))
        cuts = (("station", "bron", 1), ("train", 1, 1))
        self.stays(told_sheet(newer, cuts), elder, (), (((2, 0), (2, 0)), ((1, 1), (1, 0))),
                   ((("abel", 0), ("abel", 0)), (("bron", 1), ("bron", 0))))

    def test_two_calls_of_a_train_in_one_row(self):
        plan = plan_of((("abel", 10), ("bron", 15), ("abel", 20)))
        sheet = told_sheet(plan, (("train", 1, 2),))
        self.stays(sheet, plan, (("train", 1, 1),), (), same(("abel", 0), ("bron", 0)))


class TestTurned(unittest.TestCase):

    def test_drawn_changes(self):
        some = 0
        for sheet, plan, cuts in CHANGES:
            for side in SIDES:
                told = turned(sheet, plan, cuts, side)
                self.assertEqual(told, turned_with(sheet, plan, cuts, side))
                self.assertTrue(plain(told))
                some += len(told) > 0
        self.assertGreater(some, 60)

    def test_nothing_is_turned_in_the_plan_itself(self):
        for sheet, _, _ in CHANGES:
            for side in SIDES:
                self.assertEqual(turned(sheet, *sheet[:2], side), ())

    def test_led_by_heads_that_do_not_stay(self):
        one, two = same((2, 0), (1, 0))
        self.assertEqual(turned(SHEET, NEW, (), "columns"), ((one, two),))
        turned_sheet = SHEET[:3] + (((1, 0), (2, 0)),)
        self.assertEqual(turned(turned_sheet, NEW, (), "columns"), ())
        # By two heads that do not stay: 1, then 3 by bron, then 4 by elm, then 2 by cody.
        far = (CALENDAR, NEW[1][:2] + ((3, (0,), (("bron", 25), ("elm", 30))), (4, (0,), (("cody", 3), ("elm", 40)))))
        self.assertEqual(turned(SHEET, far, (), "columns"), ((one, two),))

    def test_all_pairs_of_a_row(self):
        pairs = same(*reversed_row()[3])
        self.assertEqual(turned(reversed_row(), ROW, (), "columns"), tuple(sorted(combinations(pairs, 2))))
        self.assertEqual(turned(reversed_row((1, 2, 3, 4, 5)), ROW, (), "columns"), ())
        self.assertEqual(turned(reversed_row((2, 1, 3, 5, 4)), ROW, (), "columns"),
                         (same((2, 0), (1, 0)), same((5, 0), (4, 0))))

    def test_rows(self):
        plan = plan_of((("abel", 10), ("bron", 20), ("cobb", 30)))
        sheet = (plan, cuts_of_plan(plan), (("cobb", 0), ("abel", 0), ("bron", 0)), ((1, 0), (1, 1), (1, 2)))
        self.assertIsNone(sheet_error(sheet))
        self.assertEqual(turned(sheet, plan, (), "rows"),
                         (same(("cobb", 0), ("abel", 0)), same(("cobb", 0), ("bron", 0))))
        self.assertEqual(turned(sheet, plan, (("train", 1, 1),), "rows"), (same(("cobb", 0), ("bron", 0)),))

    def test_turned_is_handed_on(self):
        for sheet, plan, cuts in CHANGES:
            for side in SIDES:
                told = turned(sheet, plan, cuts, side)
                for first, second in told:
                    for other, third in told:
                        if second == other:
                            self.assertIn((first, third), told)


class TestKept(unittest.TestCase):

    def check(self, sheet, plan, cuts, side):
        told = kept(sheet, plan, cuts, side)
        pairs, turns = staying_with(sheet, plan, cuts, side), turned_with(sheet, plan, cuts, side)
        self.assertTrue(plain(told))
        self.assertEqual(told, tuple(pair for pair in pairs if pair in told))
        self.assertEqual([two for two in combinations(told, 2) if two in turns], [])
        self.assertEqual(len(told), most_apart(pairs, turns))

    def test_drawn_changes(self):
        for sheet, plan, cuts in CHANGES:
            for side in SIDES:
                self.check(sheet, plan, cuts, side)

    def test_all_orders_of_a_row(self):
        for order in permutations((1, 2, 3, 4, 5)):
            self.check(reversed_row(order), ROW, (), "columns")
        self.assertEqual(kept(reversed_row((3, 4, 5, 1, 2)), ROW, (), "columns"), same((3, 0), (4, 0), (5, 0)))

    def test_all_stay_in_the_plan_itself(self):
        for sheet, _, _ in CHANGES:
            self.assertEqual(kept(sheet, *sheet[:2], "columns"), same(*sheet[3]))
            self.assertEqual(kept(sheet, *sheet[:2], "rows"), same(*sheet[2]))

    def test_nothing_stays(self):
        for side in SIDES:
            self.assertEqual(kept(SHEET, (CALENDAR, ()), (), side), ())


def right_chains(pairs, turns, many, value):
    """Whether chains are as many as told, each of pairs that are turned one behind another, each pair once."""
    links = [two for chain in value for two in zip(chain, chain[1:])]
    return (len(value) == many and all(value) and all(two in turns for two in links)
            and sorted(pair for chain in value for pair in chain) == sorted(pairs))


class TestChains(unittest.TestCase):

    def test_drawn_changes(self):
        for sheet, plan, cuts in CHANGES:
            for side in SIDES:
                told = chains(sheet, plan, cuts, side)
                pairs, turns = staying_with(sheet, plan, cuts, side), turned_with(sheet, plan, cuts, side)
                self.assertTrue(plain(told))
                self.assertTrue(right_chains(pairs, turns, most_apart(pairs, turns), told))
                self.assertIs(chains_hold(sheet, plan, cuts, side, told), True)
                self.assertEqual(len(told), len(kept(sheet, plan, cuts, side)))

    def test_all_orders_of_a_row(self):
        for order in permutations((1, 2, 3, 4, 5)):
            told = chains(reversed_row(order), ROW, (), "columns")
            self.assertEqual(len(told), len(kept(reversed_row(order), ROW, (), "columns")))
            self.assertIs(chains_hold(reversed_row(order), ROW, (), "columns", told), True)

    def test_spoilt_chains(self):
        seen = set()
        for order in ((3, 1, 4, 5, 2), (5, 4, 3, 2, 1), (2, 1, 3, 5, 4), (1, 2, 3, 4, 5), (5, 1, 4, 2, 3)):
            sheet = reversed_row(order)
            pairs, turns = same(*sheet[3]), turned(sheet, ROW, (), "columns")
            many = most_apart(pairs, turns)
            # All ways to put up to three parting lines between the pairs in any order.
            for row in permutations(pairs):
                for parting in range(4):
                    for ends in combinations(range(6), parting):
                        value = tuple(row[begin:end] for begin, end in zip((0,) + ends, ends + (5,)))
                        right = right_chains(pairs, turns, many, value)
                        seen.add(right)
                        self.assertIs(chains_hold(sheet, ROW, (), "columns", value), right)
        self.assertEqual(seen, {True, False})

    def test_chains_joined_parted_turned_about_lacking_and_doubled(self):
        sheet = reversed_row((2, 1, 3, 5, 4))
        one, two, three = same((2, 0), (1, 0)), same((3, 0)), same((5, 0), (4, 0))
        self.holds(True, sheet, (one, two, three), (three, one, two), (two, three, one))
        self.holds(False, sheet, (one + two, three), (one, two + three), (one + three, two), (one + two + three,),
                   (one, two), (one, three), (), (one[:1], one[1:], two, three), (one[::-1], two, three),
                   (one, two, three, ()), ((), one, two, three), (one, two, three, two), (one, two, two),
                   (one, one, three), (one, two, three, three), (one, two, three[:1]), (one, two + two, three),
                   (one[:1], two, three), (one[:1] + three[1:], two, three[:1] + one[1:]),
                   (one, same((3, 1)), three), (one, same((9, 0)), three), (one, (((3, 0), (4, 0)),), three),
                   (one, same(("abel", 0)), three), (one, same((3, 0), ("abel", 0)), three))

    def holds(self, expected, sheet, *values):
        for value in values:
            with self.subTest(value=value):
                self.assertIs(chains_hold(sheet, ROW, (), "columns", value), expected)

    def test_kinds(self):
        sheet = reversed_row((2, 1, 3, 5, 4))
        one, two, three = same((2, 0), (1, 0)), same((3, 0)), same((5, 0), (4, 0))
        self.holds(False, sheet, [one, two, three], (list(one), two, three), (one, [(3, 0), (3, 0)], three),
                   (one, ([(3, 0), (3, 0)],), three), (one, (([3, 0], (3, 0)),), three),
                   (one, (((3, 0), [3, 0]),), three),
                   (one, (((3, False), (3, 0)),), three), (one, (((3, 0), (3, False)),), three),
                   (one, two, three, None),
                   ((((2, 0), (2, 0)), ((True, 0), (1, 0))), two, three),
                   ((((2, 0), (2, 0)), ((1, 0), (True, 0))), two, three),
                   (one, (((3, 0),),), three), (one, (((3, 0), (3, 0), (3, 0)),), three),
                   (one, ((3, 0), (3, 0)), three),
                   (one, ((None, None),), three), (one, (({}, {}),), three), (one, (("ab", "cd"),), three), {one: two},
                   (one, (((3, 0), ("3", 0)),), three), (one, two, "abel"), "abel")

    def test_any_values(self):
        sheet = reversed_row((2, 1, 3, 5, 4))
        self.holds(False, sheet, *ODD, *[(value,) for value in ODD], *[((value,),) for value in ODD],
                   *[(((value, (3, 0)),),) for value in ODD], *[((((3, 0), (value, 0)),),) for value in ODD])
        bare = ((CALENDAR, ()), (), (), ())
        for side in SIDES:
            for value in ODD + (((),), (((1, 0), (1, 0)),)):
                self.assertIs(chains_hold(bare, NEW, (), side, value), False)
            self.assertIs(chains_hold(bare, NEW, (), side, ()), True)

    def test_the_side_counts(self):
        rows, columns = chains(SHEET, OLD, (), "rows"), chains(SHEET, OLD, (), "columns")
        self.assertIs(chains_hold(SHEET, OLD, (), "rows", rows), True)
        self.assertIs(chains_hold(SHEET, OLD, (), "columns", rows), False)
        self.assertIs(chains_hold(SHEET, OLD, (), "rows", columns), False)


class TestBounds(unittest.TestCase):

    def test_great_plans(self):
        for name, plan in GREAT_PLANS.items():
            cuts = cuts_of_plan(plan)
            sheet = told_sheet(plan, cuts)
            fewer = (plan[0], plan[1][1:])
            with self.subTest(name=name), in_time(self, name):
                for side in SIDES:
                    for newer, others in ((plan, cuts), (fewer, cuts_of_plan(fewer))):
                        self.assertEqual(turned(sheet, newer, others, side), ())
                        self.assertEqual(kept(sheet, newer, others, side), staying(sheet, newer, others, side))
                        told = chains(sheet, newer, others, side)
                        self.assertIs(chains_hold(sheet, newer, others, side, told), True)

    def test_200_columns_in_any_order(self):
        plan = long_row()
        cuts = cuts_of_plan(plan)
        columns = tuple((number, place) for number, _, calls in plan[1] for place in range(len(calls)))
        rows = tuple(("abel", place) for place in range(200))
        newer = tuple(cut for cut in cuts if cut[0] == "train")
        right = sorted(columns, key=lambda head: head[0] - 1 + 24 * head[1])
        for seed in range(3):
            order = list(columns)
            Random(seed).shuffle(order)
            order = right[::-1] if seed == 0 else order
            sheet = (plan, cuts, rows, tuple(order))
            self.assertIsNone(sheet_error(sheet))
            with in_time(self, seed):
                self.assertEqual(len(staying(sheet, plan, newer, "columns")), 200)
                turned(sheet, plan, newer, "columns")
                told = kept(sheet, plan, newer, "columns")
                shown = chains(sheet, plan, newer, "columns")
                self.assertIs(chains_hold(sheet, plan, newer, "columns", shown), True)
            self.assertEqual(len(shown), len(told))
            self.assertEqual([head for head, _ in told], sorted([head for head, _ in told], key=right.index))
            # As many as rise at most: for each length the least last place of rising places so far.
            lasts = []
            for place in [right.index(head) for head in order]:
                at = bisect(lasts, place)
                lasts[at:at + 1] = [place]
            self.assertEqual(len(told), len(lasts))
            self.assertEqual(len(told) == 1, seed == 0)


class TestConventions(unittest.TestCase):

    def test_functions_of_staying(self):
        some = CHANGES[::40] + [(reversed_row((2, 1, 3, 5, 4)), ROW, ()), (SHEET, NEW, ())]
        for sheet, plan, cuts in some:
            for side in SIDES:
                told = {"sheet": sheet, "plan": plan, "cuts": cuts, "side": side}
                for function in (staying, turned, kept, chains):
                    check_conventions(self, function, **told)
                for value in (chains(sheet, plan, cuts, side), None, [()], (((True, 0), (1, 0)),)):
                    before = repr((told, value))
                    first = chains_hold(*told.values(), value)
                    self.assertIs(chains_hold(value=value, **told), first)
                    self.assertIs(type(first), bool)
                    self.assertEqual(repr((told, value)), before)


if __name__ == "__main__":
    unittest.main()
