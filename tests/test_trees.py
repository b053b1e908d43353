"""Part D: trees, which show that good cuts cost more than as much."""

import unittest

from risingsheets.cutting import least_cuts
from risingsheets.errors import HasCuts, NeedsMore, SheetError
from risingsheets.rings import gaps_of, ring_of
from risingsheets.threads import cuts_error
from risingsheets.trees import tree, tree_holds
from tests.drawn import CALENDAR, cuts_of_plan, plan_of, small_plans
from tests.great import GREAT_PLANS, great_asks, in_time
from tests.reference import cost_with, is_right_tree, lets_none_stand
from tests.values import ODD, check_conventions, fresh, nested, plain, put

EMPTY = (CALENDAR, ())
MEETING = plan_of((("abel", 60), ("bron", 70)), (("bron", 100), ("abel", 110)))
RING = ("rows", (((1, 0), (1, 1)), ((2, 0), (2, 1))))
PASSING = ((("cora", 10), ("dorn", 40)), (("cora", 20), ("dorn", 30)))
BOTH = plan_of(*[calls for _, _, calls in MEETING[1]], *PASSING)
OTHER = ("columns", (((3, 0), (4, 0)), ((4, 1), (3, 1))))

PLANS = small_plans(48, 8) + [EMPTY, MEETING, BOTH, plan_of((("abel", 5),))]


def node(plan, ring, inner=lambda cut: None):
    """A pair of the ring and of a branch for each of its gaps, with the inner node for this cut."""
    return (ring, tuple((cut, inner(cut)) for cut in gaps_of(plan, ring)))


SHORT = node(MEETING, RING)
WHOLE = node(BOTH, RING, lambda cut: node(BOTH, OTHER))


def trees_of(plans):
    """All trees for these plans, with what they are for."""
    found = []
    for plan in plans:
        for price in (1, 2, 3):
            for most in range(4):
                try:
                    found.append((plan, price, most, tree(plan, price, most)))
                except HasCuts:
                    pass
    return found


TREES = trees_of(PLANS)


def paths_in(value):
    """The places of all items of nested tuples, as paths."""
    if not isinstance(value, tuple):
        return [()]
    return [()] + [(place,) + path for place, item in enumerate(value) for path in paths_in(item)]


def at(value, path):
    for place in path:
        value = value[place]
    return value


def spoilt(item):
    """Other values in place of an item of a tree."""
    told = [value for value in (None, (), True, 0, "abel", [item]) if repr(value) != repr(item)]
    if isinstance(item, tuple):
        told += [list(item), item + (None,), item[:-1], item[1:], item[::-1], (item,), item + item[-1:]]
    elif isinstance(item, int):
        told += [item + 1, item - 1, str(item), bool(item), -item]
    elif isinstance(item, str):
        told += [item.upper(), item + "s", item[:-1], {"columns": "rows", "rows": "columns"}.get(item, item[::-1])]
    return [value for value in told if repr(value) != repr(item)]


class TestTrees(unittest.TestCase):

    def test_a_tree_stands_exactly_where_cuts_need_more(self):
        for plan in PLANS:
            for price in (1, 2, 3):
                for most in range(4):
                    with self.subTest(plan=plan, price=price, most=most):
                        try:
                            least_cuts(plan, price, most)
                        except NeedsMore:
                            made = tree(plan, price, most)
                            self.assertTrue(plain(made))
                            self.assertTrue(is_right_tree(plan, price, most, made))
                            self.assertIs(tree_holds(plan, price, most, made), True)
                            self.assertIs(tree_holds(plan, price, most, fresh(made)), True)
                        else:
                            self.check_has_cuts(plan, price, most)

    def check_has_cuts(self, plan, price, most):
        with self.assertRaises(HasCuts) as caught:
            tree(plan, price, most)
        found = caught.exception.found
        self.assertIsNone(cuts_error(plan, found))
        self.assertTrue(lets_none_stand(plan, found))
        self.assertLessEqual(cost_with(found, price), most)
        self.assertIsInstance(caught.exception, SheetError)
        self.assertIsInstance(caught.exception, ValueError)

    def test_many_trees_were_made(self):
        self.assertEqual({(price, most) for _, price, most, _ in TREES},
                         {(price, most) for price in (1, 2, 3) for most in range(4)})
        self.assertGreater(len(TREES), 100)

    def test_nothing_to_cut(self):
        for plan in (EMPTY, plan_of((("abel", 5),)), plan_of((("abel", 5),), (("bron", 9),))):
            for price in (1, 2, 3):
                for most in range(4):
                    with self.assertRaises(HasCuts) as caught:
                        tree(plan, price, most)
                    self.assertEqual(caught.exception.found, ())
                    for value in (None, (), SHORT):
                        self.assertIs(tree_holds(plan, price, most, value), False)


class TestRightTrees(unittest.TestCase):

    def test_written_trees(self):
        for price in (1, 2, 3):
            self.assertIs(tree_holds(MEETING, price, 0, SHORT), True)
            self.assertIs(tree_holds(MEETING, price, 1, SHORT), False)
            self.assertIs(tree_holds(BOTH, price, 0, SHORT), True)
            self.assertIs(tree_holds(BOTH, price, 1, SHORT), False)
            self.assertIs(tree_holds(BOTH, price, 1, WHOLE), price == 1)
        self.assertIs(tree_holds(BOTH, 1, 0, WHOLE), False)
        self.assertIs(tree_holds(BOTH, 1, 2, WHOLE), False)

    def test_ways_that_cost_most_go_on_and_those_that_cost_more_end(self):
        for price in (2, 3):
            mixed = node(BOTH, RING, lambda cut: None if cut[0] == "station" else node(BOTH, OTHER))
            self.assertIs(tree_holds(BOTH, price, 1, mixed), True)
            self.assertIs(tree_holds(BOTH, 1, 1, mixed), False)
            self.assertIs(tree_holds(BOTH, price, 2, mixed), False)

    def test_a_ring_with_a_gap_in_the_way(self):
        for cut in gaps_of(MEETING, RING):
            inner = node(BOTH, OTHER)
            again = node(BOTH, RING)
            self.assertIs(tree_holds(BOTH, 1, 1, node(BOTH, RING, lambda each: again if each == cut else inner)), False)

    def test_other_rings_with_the_same_gaps(self):
        for arcs in (RING[1][::-1], RING[1] * 2, RING[1] * 300):
            self.assertIs(tree_holds(MEETING, 1, 0, (("rows", arcs), SHORT[1])), True)
        self.assertIs(tree_holds(MEETING, 1, 0, (("columns", RING[1]), SHORT[1])), False)
        self.assertIs(tree_holds(MEETING, 1, 0, (("rows", RING[1][:1]), SHORT[1])), False)

    def test_none_and_any_values(self):
        for plan in (EMPTY, MEETING, BOTH):
            for most in range(4):
                for value in ODD + (nested(20), (RING, ()), (RING,), OTHER, SHORT + (None,), list(SHORT), (SHORT,)):
                    self.assertIs(tree_holds(plan, 1, most, value), False)
                    self.assertIs(tree_holds(plan, 1, most, (RING, value)), False)
                    self.assertIs(tree_holds(plan, 1, most, (value, SHORT[1])), False)

    def test_trees_with_one_thing_wrong(self):
        for plan, price, most, made in [(MEETING, 1, 0, SHORT), (BOTH, 1, 1, WHOLE)]:
            for path in paths_in(made):
                for value in spoilt(at(made, path)):
                    wrong = put(made, path, value)
                    self.assertIs(tree_holds(plan, price, most, wrong), is_right_tree(plan, price, most, wrong),
                                  (path, value))

    def test_drawn_trees_with_one_thing_wrong(self):
        for count, (plan, price, most, made) in enumerate(TREES[::5]):
            for path in paths_in(made)[count % 7::7][:60]:
                for value in spoilt(at(made, path))[count % 3::3]:
                    wrong = put(made, path, value)
                    self.assertIs(tree_holds(plan, price, most, wrong), is_right_tree(plan, price, most, wrong),
                                  (plan, path, value))

    def test_branches_dropped_doubled_and_exchanged(self):
        for plan, price, most, made in TREES[::3] + [(BOTH, 1, 1, WHOLE)]:
            ring, branches = made
            for place in range(len(branches)):
                one = branches[place:place + 1]
                for wrong in (branches[:place] + branches[place + 1:], branches[:place] + one + branches[place:]):
                    self.assertIs(tree_holds(plan, price, most, (ring, wrong)), False)
                if place:
                    ahead = branches[place - 1:place]
                    wrong = branches[:place - 1] + one + ahead + branches[place + 1:]
                    self.assertIs(tree_holds(plan, price, most, (ring, wrong)), False)

    def test_true_is_not_one(self):
        for place, (cut, inner) in enumerate(SHORT[1]):
            for item in (1, 2):
                if cut[item] == 1:
                    wrong = put(SHORT, (1, place, 0, item), True)
                    self.assertEqual(wrong, SHORT)
                    self.assertIs(tree_holds(MEETING, 1, 0, wrong), False)
        self.assertIs(tree_holds(MEETING, 1, 0, put(SHORT, (0, 1, 0, 0, 0), True)), False)
        self.assertIs(tree_holds(MEETING, 1, 0, put(SHORT, (0, 1, 0, 0, 1), False)), False)

    def test_other_prices_mosts_and_plans(self):
        for plan, price, most, made in TREES[::4]:
            for other in (1, 2, 3):
                for less in range(4):
                    self.assertIs(tree_holds(plan, other, less, made), is_right_tree(plan, other, less, made))
            for elsewhere in PLANS[::9]:
                self.assertIs(tree_holds(elsewhere, price, most, made),
                              is_right_tree(elsewhere, price, most, made))


class TestBounds(unittest.TestCase):

    def test_great_plans(self):
        for name, plan, price, most in great_asks():
            with self.subTest(name=name, price=price, most=most), in_time(self, name, price, most):
                try:
                    made = tree(plan, price, most)
                except HasCuts as error:
                    self.assertIsNone(ring_of(plan, error.found))
                    self.assertLessEqual(cost_with(error.found, price), most)
                else:
                    self.assertIs(tree_holds(plan, price, most, made), True)
                    self.assertIs(tree_holds(plan, price, (most + 1) % 4, made), False)
                    self.assertRaises(NeedsMore, least_cuts, plan, price, most)

    def test_a_great_tree_with_one_thing_wrong_at_its_end(self):
        plan = GREAT_PLANS["rounds"]
        made = tree(plan, 1, 3)
        last = ()
        for _ in range(4):
            last += (1, len(at(made, last + (1,))) - 1, 1)
        self.assertIsNone(at(made, last))
        self.assertIs(tree_holds(plan, 1, 3, made), True)
        self.assertIs(tree_holds(plan, 1, 3, put(made, last, ())), False)

    def test_all_cuts_in_one_tree(self):
        plan = plan_of(tuple(("abel", minute) for minute in range(5)))
        for most in range(4):
            made = tree(plan, 1, most)
            self.assertTrue(is_right_tree(plan, 1, most, made))
        self.assertEqual(len(cuts_of_plan(plan)), 8)


class TestConventions(unittest.TestCase):

    def test_functions_of_trees(self):
        for plan in PLANS[:6] + PLANS[-4:]:
            for price in (1, 2, 3):
                for most in (0, 2):
                    check_conventions(self, tree, plan=plan, price=price, most=most)
        for plan, price, most, made in TREES[::20]:
            check_conventions(self, tree_holds, plan=plan, price=price, most=most, value=made)
        for value in ODD + (SHORT, list(SHORT)):
            check_conventions(self, tree_holds, plan=MEETING, price=1, most=0, value=value)


if __name__ == "__main__":
    unittest.main()
