"""Part A: what plans are asked, and the conventions [A3] for the functions of this part."""

import unittest

from risingsheets.errors import NoTrain, SheetError
from risingsheets.plans import calls_at, minute_of, plan_error, stations_of, train_of
from tests.test_plans import FOUR, NAMES, ONE, SMALL, WEEK, greatest
from tests.values import GREAT, ODD, check_conventions

EMPTY = (WEEK, ())

# Train 2 calls twice at bron and at cors, and bron has three calls at one minute.
BUSY = (WEEK, (
    (2, (0,), (("bron", 30), ("cors", 40), ("bron", 50), ("cors", 60))),
    (3, (0,), (("zell", 10), ("bron", 50), ("abel", 70))),
    (10, (1,), (("abel", 20), ("bron", 50), ("cors", 2879))),
    (9999, (2,), (("bron", 0),)),
))

PLANS = (EMPTY, SMALL, BUSY, greatest())


def marks_of(plan):
    """The marks of all calls, each with its call."""
    return [((number, place), call) for number, _, calls in plan[1] for place, call in enumerate(calls)]


class TestStations(unittest.TestCase):

    def test_stations_are_ascending_and_each_is_told_once(self):
        self.assertEqual(stations_of(SMALL), ("abel", "bron", "cors"))
        self.assertEqual(stations_of(BUSY), ("abel", "bron", "cors", "zell"))
        self.assertEqual(stations_of(EMPTY), ())
        self.assertEqual(stations_of(greatest()), NAMES[:16])

    def test_names_are_compared_as_strings(self):
        plan = (WEEK, ((1, (0,), (("b", 1), ("ab", 2), ("abc", 3), ("aab", 4), ("a", 5), ("ba", 6))),))
        self.assertEqual(stations_of(plan), ("a", "aab", "ab", "abc", "b", "ba"))


class TestCalls(unittest.TestCase):

    def test_calls_are_ascending_by_minute_number_and_place(self):
        self.assertEqual(calls_at(BUSY, "bron"), ((0, 9999, 0), (30, 2, 0), (50, 2, 2), (50, 3, 1), (50, 10, 1)))
        self.assertEqual(calls_at(BUSY, "cors"), ((40, 2, 1), (60, 2, 3), (2879, 10, 2)))
        self.assertEqual(calls_at(BUSY, "abel"), ((20, 10, 0), (70, 3, 2)))
        self.assertEqual(calls_at(BUSY, "zell"), ((10, 3, 0),))

    def test_a_name_that_the_plan_does_not_have(self):
        for plan in PLANS:
            for name in ("dorn", "z", "abelabelabel", "bro", "bronn"):
                self.assertEqual(calls_at(plan, name), ())
        self.assertEqual(calls_at(EMPTY, "abel"), ())

    def test_each_call_is_told_at_its_station_and_at_no_other(self):
        for plan in PLANS:
            told = [(mark, (name, minute)) for name in stations_of(plan) for minute, *mark in calls_at(plan, name)]
            self.assertEqual(sorted([(tuple(mark), call) for mark, call in told]), sorted(marks_of(plan)))
            for name in stations_of(plan):
                self.assertEqual(list(calls_at(plan, name)), sorted(calls_at(plan, name)))


class TestTrains(unittest.TestCase):

    def test_numbers_that_a_train_has(self):
        for plan in PLANS:
            for train in plan[1]:
                self.assertEqual(train_of(plan, train[0]), train)

    def test_numbers_that_no_train_has(self):
        for plan in PLANS:
            for number in (0, -1, -4, 5, 8, 11, 9975, 10000, GREAT, -GREAT):
                with self.subTest(number=number), self.assertRaises(NoTrain) as caught:
                    train_of(plan, number)
                self.assertEqual(caught.exception.given, number)
                self.assertIsInstance(caught.exception, SheetError)
                self.assertIsInstance(caught.exception, ValueError)

    def test_places_are_no_numbers(self):
        self.assertRaises(NoTrain, train_of, BUSY, 1)
        self.assertRaises(NoTrain, train_of, BUSY, 0)


class TestMinutes(unittest.TestCase):

    def test_each_mark_has_the_minute_of_its_call(self):
        for plan in PLANS:
            for mark, (_, minute) in marks_of(plan):
                self.assertEqual(minute_of(plan, mark), minute)

    def test_a_train_that_calls_twice(self):
        self.assertEqual([minute_of(BUSY, (2, place)) for place in range(4)], [30, 40, 50, 60])
        self.assertEqual([minute_of(BUSY, mark) for mark in ((3, 1), (10, 1), (10, 2), (9999, 0))], [50, 50, 2879, 0])


class TestConventions(unittest.TestCase):

    def test_functions_of_plans(self):
        for plan in PLANS:
            check_conventions(self, plan_error, value=plan)
            check_conventions(self, stations_of, plan=plan)
            for name in stations_of(plan) + ("dorn",):
                check_conventions(self, calls_at, plan=plan, name=name)
            for number in [train[0] for train in plan[1]] + [0, -3, GREAT]:
                check_conventions(self, train_of, plan=plan, number=number)
            for mark, _ in marks_of(plan):
                check_conventions(self, minute_of, plan=plan, mark=mark)

    def test_plan_error_of_any_value(self):
        for value in ODD + ([WEEK, [ONE, FOUR]], (WEEK, (ONE, ONE)), {WEEK: ONE}):
            check_conventions(self, plan_error, value=value)

    def test_words_with_places_are_tuples(self):
        for trains in ((None,), (ONE, ONE), ((1, (0,), (None,)),)):
            self.assertIs(type(plan_error((WEEK, trains))), tuple)

    def test_true_is_not_one_behind_an_equal_call(self):
        self.assertIsNone(plan_error(((0, 1, ()), ((1, (0,), (("abel", 1),)),))))
        self.assertEqual(plan_error(((0, 1, ()), ((True, (0,), (("abel", 1),)),))), ("number", 0))
        self.assertEqual(plan_error(((0, True, ()), ((1, (0,), (("abel", 1),)),))), "calendar")
        self.assertEqual(plan_error(((0, 1, ()), ((1, (0,), (("abel", True),)),))), ("call", 0, 0))


if __name__ == "__main__":
    unittest.main()
