"""Part C: rings, their gaps, and what lets them stand."""

import unittest
from itertools import product

from risingsheets.rings import gaps_of, lets_stand, ring_error, ring_of
from tests.drawn import CALENDAR, cuts_of_plan, drawn_cuts, plan_of, small_plans, some_cuts
from tests.great import GREAT_PLANS, in_time
from tests.reference import (
    has_circle, is_plain, is_ring, lets_none_stand, marks_of, minute_at, pairs_ahead, right_orders, ring_fault,
    ring_gaps,
)
from tests.values import GREAT, ODD, check_conventions, check_told, put

EMPTY = (CALENDAR, ())
OVERTAKEN = plan_of((("abel", 5), ("bron", 25), ("cobb", 50)), (("abel", 10), ("bron", 20), ("cobb", 60)))
COLUMNS = ("columns", (((2, 1), (1, 1)), ((1, 2), (2, 2))))
SHUTTLE = plan_of((("abel", 5), ("bron", 10), ("abel", 20)))
LONE = ("columns", (((1, 0), (1, 2)),))
MEETING = plan_of((("abel", 60), ("bron", 70)), (("bron", 100), ("abel", 110)))
ROWS = ("rows", (((1, 0), (1, 1)), ((2, 0), (2, 1))))

# Three trains that follow one another at three stations, each pair at one of them: a ring of three arcs on each side.
THREE = plan_of((("abel", 10), ("bron", 40)), (("abel", 20), ("cobb", 25)), (("bron", 35), ("cobb", 50)))
ROUND = ("columns", (((1, 0), (2, 0)), ((2, 1), (3, 1)), ((3, 0), (1, 1))))

# All calls at one minute, so that no arc goes along a station.
LEVEL = plan_of((("abel", 5), ("bron", 6)), (("abel", 5), ("bron", 6)), (("abel", 5),))

PLANS = small_plans(36, 6) + [EMPTY, OVERTAKEN, SHUTTLE, MEETING, THREE, LEVEL]
TINY = small_plans(24, 5) + [SHUTTLE, MEETING, LEVEL, plan_of((("abel", 5),))]


def arcs_on(plan, side):
    """All arcs that a ring of this side can have."""
    pairs = product(marks_of(plan), repeat=2)
    return [pair for pair in pairs if ring_fault(plan, side, (pair,)) != ("arc", 0)]


def rings_on(plan, most):
    """All rings with at most so many arcs."""
    return [(side, arcs) for side in ("columns", "rows") for many in range(1, most + 1)
            for arcs in product(arcs_on(plan, side), repeat=many) if ring_fault(plan, side, arcs) is None]


class TestRingErrors(unittest.TestCase):

    def tells(self, expected, plan, *values):
        for value in values:
            check_told(self, expected, ring_error, plan, value)

    def test_rings_with_one_two_and_three_arcs(self):
        self.tells(None, SHUTTLE, LONE, ("rows", (((1, 0), (1, 1)), ((1, 1), (1, 2)))), ("rows", (((1, 0), (1, 2)),)))
        self.tells(None, OVERTAKEN, COLUMNS, ("columns", (((2, 1), (1, 1)), ((1, 0), (2, 0)))))
        self.tells(None, MEETING, ROWS)
        self.tells(None, THREE, ROUND)

    def test_rings_begun_at_another_arc_and_put_twice(self):
        for plan, (side, arcs) in ((OVERTAKEN, COLUMNS), (SHUTTLE, LONE), (MEETING, ROWS), (THREE, ROUND)):
            for place in range(len(arcs)):
                turned = (side, arcs[place:] + arcs[:place])
                self.tells(None, plan, turned, (side, turned[1] * 2), (side, turned[1] * 3), (side, turned[1] * 700))
                self.assertEqual(gaps_of(plan, turned), gaps_of(plan, (side, arcs)))
                self.assertEqual(gaps_of(plan, (side, turned[1] * 2)), gaps_of(plan, (side, arcs)))

    def test_the_other_side(self):
        self.tells(("arc", 0), OVERTAKEN, ("rows",) + COLUMNS[1:])
        self.tells(("arc", 0), MEETING, ("columns",) + ROWS[1:])
        self.tells(None, SHUTTLE, ("rows",) + LONE[1:])

    def test_arcs_of_one_minute_or_back(self):
        self.tells(("arc", 0), LEVEL, ("columns", (((1, 0), (2, 0)),)), ("columns", (((2, 1), (1, 1)),)))
        self.tells(("arc", 0), OVERTAKEN, ("columns", (((1, 1), (2, 1)), ((1, 2), (2, 2)))))
        self.tells(("arc", 1), OVERTAKEN, ("columns", (((2, 1), (1, 1)), ((2, 2), (1, 2)))))
        self.tells(("arc", 0), SHUTTLE, ("columns", (((1, 0), (1, 0)),)), ("rows", (((1, 2), (1, 0)),)))

    def test_arcs_come_ahead_of_links(self):
        no_link = ((1, 0), (2, 0))
        self.tells(("link", 0), OVERTAKEN, ("columns", (no_link,)), ("columns", (no_link, no_link)))
        self.tells(("arc", 1), OVERTAKEN, ("columns", (no_link, ((1, 1), (2, 1)))))
        self.tells(("arc", 2), OVERTAKEN, ("columns", (no_link, no_link, ((1, 0), (2, 1)))))
        self.tells(("link", 2), OVERTAKEN, ("columns", (no_link, ((2, 1), (1, 1)), no_link)))
        self.tells(("link", 1), THREE, ("columns", ROUND[1][:2]))
        self.tells(("link", 0), THREE, ("columns", ROUND[1][1:2] + ROUND[1]), ("columns", ROUND[1][::-1]))

    def test_form_of_any_values(self):
        for value in ODD:
            self.tells("form", OVERTAKEN, value, (value,), (value, value), ("columns", value), ("columns", (value,)),
                       (value, COLUMNS[1]), ("columns", COLUMNS[1] + (value,)), COLUMNS + (value,))
            for path in ((1, 0), (1, 1, 0), (1, 1, 1), (1, 0, 0, 0), (1, 0, 1, 1)):
                self.tells("form", OVERTAKEN, put(COLUMNS, path, value))

    def test_form_of_sides_and_lists(self):
        for side in ("column", "Columns", "row", "", "columns ", "station", "train"):
            self.tells("form", OVERTAKEN, (side,) + COLUMNS[1:])
        self.tells("form", OVERTAKEN, list(COLUMNS), ("columns", list(COLUMNS[1])), ("columns", ()), ("rows", ()),
                   ("columns", (list(COLUMNS[1][0]), COLUMNS[1][1])), ("columns", (([2, 1], (1, 1)),)), COLUMNS[1:],
                   ("columns", (COLUMNS[1][0] + ((1, 1),),)), ("columns", (COLUMNS[1][0][:1],)), COLUMNS[::-1])

    def test_marks_that_there_are_not(self):
        for mark in ((1, 3), (1, -1), (3, 0), (0, 0), (1,), (1, 0, 0), (1, "0"), ("1", 0), (1, GREAT), (GREAT, 0),
                     (1, True), (1, False), (True, 0), (True, True), (1, None), [1, 0], "abel", ("abel", 0), 1):
            for path in ((1, 0, 0), (1, 0, 1), (1, 1, 0), (1, 1, 1)):
                self.tells("form", OVERTAKEN, put(COLUMNS, path, mark))
        self.tells("form", EMPTY, COLUMNS, LONE, ("columns", ()))

    def test_form_is_told_ahead_of_arcs_and_links(self):
        self.tells("form", OVERTAKEN, ("columns", (((1, 1), (2, 1)), ((1, 0), (2, 3)))),
                   ("columns", (((1, 0), (2, 0)), None)))

    def test_all_rows_of_pairs(self):
        for plan in TINY:
            pairs = list(product(marks_of(plan), repeat=2))
            for side in ("columns", "rows"):
                for arcs in [(pair,) for pair in pairs] + list(product(pairs, repeat=2))[::3]:
                    self.assertEqual(ring_error(plan, (side, arcs)), ring_fault(plan, side, arcs), (plan, side, arcs))

    def test_rows_of_three_arcs(self):
        for plan in TINY:
            for side in ("columns", "rows"):
                for arcs in list(product(arcs_on(plan, side), repeat=3))[:300]:
                    self.assertEqual(ring_error(plan, (side, arcs)), ring_fault(plan, side, arcs), (plan, side, arcs))


class TestGaps(unittest.TestCase):

    def test_gaps_are_ascending_and_each_is_told_once(self):
        self.assertEqual(gaps_of(OVERTAKEN, COLUMNS),
                         (("station", "bron", 1), ("station", "cobb", 1), ("train", 1, 2), ("train", 2, 2)))
        self.assertEqual(gaps_of(SHUTTLE, LONE), (("station", "abel", 1), ("train", 1, 1), ("train", 1, 2)))
        twice = ("rows", (((1, 0), (1, 2)), ((1, 0), (1, 1)), ((1, 1), (1, 2))))
        self.assertEqual(gaps_of(SHUTTLE, twice), (("station", "abel", 1), ("train", 1, 1), ("train", 1, 2)))

    def test_gaps_past_further_calls(self):
        plan = plan_of((("abel", 1), ("abel", 9)), (("abel", 5),), (("abel", 5),), (("abel", 7), ("bron", 8)))
        lone = ("columns", (((1, 0), (1, 1)),))
        self.assertEqual(gaps_of(plan, lone), tuple(("station", "abel", gap) for gap in (1, 2, 3, 4))
                         + (("train", 1, 1),))

    def test_all_small_rings(self):
        for plan in TINY:
            for ring in rings_on(plan, 2):
                gaps = gaps_of(plan, ring)
                self.assertEqual(gaps, ring_gaps(plan, ring))
                self.assertTrue(gaps)

    def test_lets_stand(self):
        for plan in TINY:
            rings = rings_on(plan, 2)[:40]
            for cuts in some_cuts(plan, 3):
                for ring in rings:
                    self.assertIs(lets_stand(plan, cuts, ring), not set(cuts) & set(ring_gaps(plan, ring)))
            for ring in rings:
                self.assertIs(lets_stand(plan, (), ring), True)
                self.assertIs(lets_stand(plan, cuts_of_plan(plan), ring), False)
                for gap in gaps_of(plan, ring):
                    self.assertIs(lets_stand(plan, (gap,), ring), False)


class TestFindingRings(unittest.TestCase):

    def check(self, plan, cuts, found):
        self.assertTrue(is_plain(found) and is_ring(plan, found), found)
        self.assertIsNone(ring_error(plan, found))
        self.assertIs(lets_stand(plan, cuts, found), True)

    def test_a_ring_is_found_exactly_if_there_is_one(self):
        for seed, plan in enumerate(PLANS):
            for cuts in some_cuts(plan, seed):
                found = ring_of(plan, cuts)
                if lets_none_stand(plan, cuts):
                    self.assertIsNone(found, (plan, cuts))
                else:
                    self.check(plan, cuts, found)

    def test_more_plans_without_cuts(self):
        for plan in small_plans(160, 9):
            found = ring_of(plan, ())
            if lets_none_stand(plan, ()):
                self.assertIsNone(found, plan)
            else:
                self.check(plan, (), found)

    def test_none_exactly_if_both_sides_have_right_orders(self):
        for seed, plan in enumerate(TINY):
            for cuts in some_cuts(plan, seed):
                orders = [right_orders(plan, cuts, side) for side in ("columns", "rows")]
                self.assertIs(ring_of(plan, cuts) is None, bool(orders[0] and orders[1]), (plan, cuts))

    def test_a_side_has_a_ring_exactly_if_heads_go_round(self):
        for seed, plan in enumerate(TINY):
            rings = rings_on(plan, 2)
            for cuts in some_cuts(plan, seed):
                for side in ("columns", "rows"):
                    circle = has_circle(pairs_ahead(plan, cuts, side))
                    standing = [ring for ring in rings if ring[0] == side and lets_stand(plan, cuts, ring)]
                    self.assertLessEqual(bool(standing), circle)

    def test_each_side_by_itself(self):
        self.assertEqual(ring_of(OVERTAKEN, ())[0], "columns")
        self.assertEqual(ring_of(MEETING, ())[0], "rows")
        self.check(OVERTAKEN, (("train", 1, 1),), ring_of(OVERTAKEN, (("train", 1, 1),)))
        for cut in (("station", "bron", 1), ("train", 1, 2)):
            self.assertEqual(ring_of(OVERTAKEN, (cut,)) is None, cut[0] == "station")

    def test_one_minute_makes_no_arc(self):
        self.assertIsNone(ring_of(LEVEL, ()))
        for cut in cuts_of_plan(LEVEL):
            self.assertIsNone(ring_of(LEVEL, (cut,)))
        # An arc goes past a call of the minute at which it begins, and past one of the minute at which it ends.
        plan = plan_of((("abel", 5), ("abel", 8)), (("abel", 5),), (("abel", 8),))
        self.assertEqual([ring_of(plan, (("station", "abel", gap),)) is None for gap in (1, 2, 3)],
                         [True, True, False])
        self.check(plan, (), ring_of(plan, ()))
        late = plan_of((("abel", 8),), (("abel", 5), ("abel", 8)))
        self.check(late, (), ring_of(late, ()))
        self.assertEqual(ring_gaps(late, ring_of(late, ())), cuts_of_plan(late))

    def test_rings_of_three_arcs(self):
        self.check(THREE, (), ring_of(THREE, ()))
        self.assertEqual([gap for gap in cuts_of_plan(THREE) if ring_of(THREE, (gap,)) is None],
                         list(ring_gaps(THREE, ROUND)))

    def test_all_cuts_are_good(self):
        for plan in PLANS + list(GREAT_PLANS.values()):
            self.assertIsNone(ring_of(plan, cuts_of_plan(plan)))

    def test_more_cuts_let_no_further_ring_stand(self):
        for seed, plan in enumerate(PLANS):
            cuts = drawn_cuts(seed, plan, 3)
            more = tuple(sorted(set(cuts) | set(drawn_cuts(seed + 1, plan, 3))))
            found = ring_of(plan, more)
            if found is not None:
                self.check(plan, cuts, found)
            if ring_of(plan, cuts) is None:
                self.assertIsNone(found)

    def test_arcs_rise(self):
        for plan in PLANS:
            found = ring_of(plan, ())
            for mark, other in found[1] if found else ():
                self.assertLess(minute_at(plan, mark), minute_at(plan, other))

    def test_plans_without_trains_and_with_one_call(self):
        for plan in (EMPTY, plan_of((("abel", 5),)), plan_of((("abel", 5), ("bron", 6), ("cobb", 7)))):
            self.assertIsNone(ring_of(plan, ()))

    def test_great_plans(self):
        for name, plan in GREAT_PLANS.items():
            for cuts in some_cuts(plan, 7):
                with self.subTest(name=name), in_time(self, name):
                    found = ring_of(plan, cuts)
                if found is not None:
                    self.assertIsNone(ring_error(plan, found))
                    self.assertTrue(lets_stand(plan, cuts, found))
        self.assertIsNone(ring_of(GREAT_PLANS["one way"], ()))
        for name in GREAT_PLANS:
            if name != "one way":
                self.assertIsNotNone(ring_of(GREAT_PLANS[name], ()), name)


class TestConventions(unittest.TestCase):

    def test_functions_of_rings(self):
        for plan in PLANS[:12] + [OVERTAKEN, SHUTTLE, EMPTY]:
            for cuts in some_cuts(plan, 4):
                check_conventions(self, ring_of, plan=plan, cuts=cuts)
            ring = ring_of(plan, ())
            check_conventions(self, ring_error, plan=plan, value=ring)
            if ring is not None:
                check_conventions(self, gaps_of, plan=plan, ring=ring)
                check_conventions(self, lets_stand, plan=plan, cuts=drawn_cuts(3, plan, 2), ring=ring)

    def test_ring_error_of_any_value(self):
        for value in ODD + (list(COLUMNS), COLUMNS, ("columns", (((1, 0), (2, 0)),))):
            check_conventions(self, ring_error, plan=OVERTAKEN, value=value)


if __name__ == "__main__":
    unittest.main()
