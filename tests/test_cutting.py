"""Part D: what cuts cost, which are good, and which of these cost least."""

import unittest

from risingsheets.cutting import are_good, cost, least_cuts
from risingsheets.errors import NeedsMore, SheetError
from risingsheets.rings import ring_of
from risingsheets.threads import cuts_error
from tests.drawn import CALENDAR, cuts_of_plan, drawn_plan, plan_of, small_plans, some_cuts
from tests.great import GREAT_PLANS, great_asks, in_time
from tests.reference import cost_with, lets_none_stand, right_orders, sets_of_cuts
from tests.values import check_conventions

EMPTY = (CALENDAR, ())
MEETING = plan_of((("abel", 60), ("bron", 70)), (("bron", 100), ("abel", 110)))
MEETING_AND_PASSING = plan_of((("abel", 60), ("bron", 70)), (("bron", 100), ("abel", 110)),
                              (("cora", 10), ("dorn", 40)), (("cora", 20), ("dorn", 30)))
NOTHING_TO_CUT = (EMPTY, plan_of((("abel", 5),)), plan_of((("abel", 5),), (("bron", 5),)),
                  plan_of((("abel", 5),), (("bron", 9),), (("cobb", 1),)))

# One cut of the station lets neither of the trains ring; at the price 3 two cuts of trains are cheaper.
TURNING = plan_of((("abel", 5), ("abel", 50)), (("abel", 6), ("abel", 51)))

PLANS = small_plans(60, 8) + [EMPTY, MEETING, MEETING_AND_PASSING, TURNING]


def least_costs(plan):
    """For each price the least cost of good cuts, None if it is above 3, by a search over all sets of cuts."""
    good = [cuts for cuts in sets_of_cuts(cuts_of_plan(plan), 1, 3) if lets_none_stand(plan, cuts)]
    costs = [[each for each in [cost_with(cuts, price) for cuts in good] if each <= 3] for price in (1, 2, 3)]
    return [min(each) if each else None for each in costs]


class TestCosts(unittest.TestCase):

    def test_each_price(self):
        cuts = (("station", "abel", 1), ("station", "bron", 2), ("train", 1, 1), ("train", 1, 2), ("train", 4, 1))
        for price in (1, 2, 3):
            self.assertEqual(cost(cuts, price), 2 * price + 3)
            self.assertEqual(cost(cuts[:2], price), 2 * price)
            self.assertEqual(cost(cuts[2:], price), 3)
            self.assertEqual(cost((), price), 0)
            for cut in cuts:
                self.assertEqual(cost((cut,), price), price if cut[0] == "station" else 1)

    def test_all_cuts_of_great_plans(self):
        for plan in GREAT_PLANS.values():
            for price in (1, 2, 3):
                self.assertEqual(cost(cuts_of_plan(plan), price), cost_with(cuts_of_plan(plan), price))


class TestGoodCuts(unittest.TestCase):

    def test_cuts_are_good_exactly_if_no_ring_stands(self):
        for seed, plan in enumerate(PLANS):
            for cuts in some_cuts(plan, seed):
                self.assertIs(are_good(plan, cuts), lets_none_stand(plan, cuts), (plan, cuts))
                self.assertIs(are_good(plan, cuts), ring_of(plan, cuts) is None)

    def test_cuts_are_good_exactly_if_there_are_right_orders(self):
        for seed, plan in enumerate(small_plans(20, 5)):
            for cuts in some_cuts(plan, seed):
                orders = [right_orders(plan, cuts, side) for side in ("columns", "rows")]
                self.assertIs(are_good(plan, cuts), bool(orders[0] and orders[1]), (plan, cuts))

    def test_nothing_to_cut(self):
        for plan in NOTHING_TO_CUT:
            self.assertIs(are_good(plan, ()), True)

    def test_great_plans(self):
        for name, plan in GREAT_PLANS.items():
            with in_time(self, name):
                self.assertIs(are_good(plan, cuts_of_plan(plan)), True)
                self.assertIs(are_good(plan, ()), name == "one way")


class TestLeastCuts(unittest.TestCase):

    def check(self, plan, price, most, least):
        if least is None or least > most:
            with self.assertRaises(NeedsMore) as caught:
                least_cuts(plan, price, most)
            self.assertEqual(repr(caught.exception.most), repr(most))
            self.assertIsInstance(caught.exception, SheetError)
            self.assertIsInstance(caught.exception, ValueError)
        else:
            cuts = least_cuts(plan, price, most)
            self.assertIsNone(cuts_error(plan, cuts))
            self.assertTrue(lets_none_stand(plan, cuts), cuts)
            self.assertEqual(cost_with(cuts, price), least)

    def test_against_all_sets_of_cuts(self):
        seen = set()
        for plan in PLANS:
            for price, least in zip((1, 2, 3), least_costs(plan)):
                for most in range(4):
                    with self.subTest(plan=plan, price=price, most=most):
                        self.check(plan, price, most, least)
                seen.add((price, least))
        # The drawn plans have all that there can be.
        for price in (1, 2, 3):
            for least in (0, 1, 2, 3, None):
                self.assertIn((price, least), seen)

    def test_prices_make_a_difference(self):
        self.assertEqual(least_costs(TURNING), [1, 2, 2])
        self.assertEqual(least_cuts(TURNING, 1, 3), (("station", "abel", 2),))
        self.assertEqual(least_cuts(TURNING, 3, 3), (("train", 1, 1), ("train", 2, 1)))
        self.assertRaises(NeedsMore, least_cuts, TURNING, 2, 1)

    def test_nothing_to_cut(self):
        for plan in NOTHING_TO_CUT:
            for price in (1, 2, 3):
                for most in range(4):
                    self.assertEqual(least_cuts(plan, price, most), ())

    def test_some_more_than_three(self):
        for most in (4, 5):
            for plan in small_plans(30, 8):
                try:
                    cuts = least_cuts(plan, 1, most)
                except NeedsMore:
                    continue
                self.assertTrue(lets_none_stand(plan, cuts))
                if cuts:
                    self.assertRaises(NeedsMore, least_cuts, plan, 1, cost(cuts, 1) - 1)

    def test_great_plans(self):
        for name, plan, price, most in great_asks():
            with self.subTest(name=name, price=price, most=most), in_time(self, name, price, most):
                try:
                    cuts = least_cuts(plan, price, most)
                except NeedsMore:
                    self.assertNotEqual(name, "one way")
                else:
                    self.assertTrue(are_good(plan, cuts))
                    self.assertLessEqual(cost(cuts, price), most)
        self.assertEqual(least_cuts(GREAT_PLANS["one way"], 1, 0), ())
        self.assertEqual(cost(least_cuts(GREAT_PLANS["delayed"], 1, 3), 1), 3)
        self.assertRaises(NeedsMore, least_cuts, GREAT_PLANS["delayed"], 1, 2)
        self.assertRaises(NeedsMore, least_cuts, GREAT_PLANS["crossings"], 1, 3)

    def test_plans_of_few_long_rings(self):
        for seed in range(12):
            plan = drawn_plan(seed, 20, 16, 44, 2880)
            with in_time(self, seed):
                for price in (1, 2, 3):
                    for most in range(4):
                        try:
                            cuts = least_cuts(plan, price, most)
                        except NeedsMore:
                            continue
                        self.assertTrue(are_good(plan, cuts))
                        self.assertLessEqual(cost(cuts, price), most)


class TestConventions(unittest.TestCase):

    def test_functions_of_cutting(self):
        for plan in PLANS[:10] + PLANS[-4:]:
            for cuts in some_cuts(plan, 2):
                check_conventions(self, are_good, plan=plan, cuts=cuts)
                check_conventions(self, cost, cuts=cuts, price=2)
            for price in (1, 2, 3):
                for most in range(4):
                    check_conventions(self, least_cuts, plan=plan, price=price, most=most)


if __name__ == "__main__":
    unittest.main()
