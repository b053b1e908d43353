"""Part B: classes of days, expressions, and the plain one."""

import unittest

from risingsheets.days import class_of, days_of_class, expressed, plain_expression
from tests.calendars import ALL, BASES, TINY, class_in, expression_with, standing_in, tuples_of
from tests.values import check_conventions


class TestClasses(unittest.TestCase):

    def test_each_day_has_the_class_of_its_weekday_or_is_a_holiday(self):
        for calendar in ALL:
            for day in range(calendar[1]):
                self.assertEqual(class_of(calendar, day), class_in(calendar, day), (calendar[:2], day))

    def test_each_day_is_in_just_one_class(self):
        for calendar in ALL:
            told = [day for kind in range(8) for day in days_of_class(calendar, kind)]
            self.assertEqual(sorted(told), list(range(calendar[1])))
            for kind in range(8):
                days = days_of_class(calendar, kind)
                self.assertEqual(days, tuple(day for day in range(calendar[1]) if class_in(calendar, day) == kind))

    def test_classes_without_days(self):
        self.assertEqual([days_of_class((2, 1, ()), kind) for kind in range(8)], [(), (), (0,), (), (), (), (), ()])
        self.assertEqual([days_of_class((2, 2, (0, 1)), kind) for kind in range(8)], [()] * 7 + [(0, 1)])
        self.assertEqual(days_of_class((0, 6, ()), 6), ())
        self.assertEqual(days_of_class((0, 7, (6,)), 6), ())
        self.assertEqual(days_of_class((0, 400, ()), 7), ())

    def test_a_holiday_has_no_weekday(self):
        self.assertEqual(class_of((0, 8, (0,)), 0), 7)
        self.assertEqual(days_of_class((0, 8, (0,)), 0), (7,))
        self.assertEqual(days_of_class((0, 8, (0,)), 7), (0,))


class TestPlainExpressions(unittest.TestCase):

    def check_plain(self, calendar, days):
        base, dates_not, dates_also = plain_expression(calendar, days)
        self.assertEqual((base, dates_not, dates_also), expression_with(calendar, base, days))
        all_kinds = [class_in(calendar, day) for day in range(calendar[1])]
        kinds = [class_in(calendar, day) for day in days]
        for kind in range(8):
            self.assertEqual(kind in base, 2 * kinds.count(kind) > all_kinds.count(kind), (calendar, days, kind))
        self.assertEqual(base, tuple(sorted(base)))
        self.assertEqual(expressed(calendar, (base, dates_not, dates_also)), days)

    def test_no_days_and_all_days(self):
        for calendar in ALL:
            everything = tuple(range(calendar[1]))
            self.assertEqual(plain_expression(calendar, ()), ((), (), ()))
            self.assertEqual(plain_expression(calendar, everything), (standing_in(calendar), (), ()))
            self.check_plain(calendar, ())
            self.check_plain(calendar, everything)

    def test_whole_classes_with_some_more_and_fewer(self):
        for calendar in ALL:
            for base in BASES[3::17] if calendar[1] < 400 else BASES[3::60]:
                whole = expressed(calendar, (base, (), ()))
                self.assertEqual(whole, tuple(day for day in range(calendar[1]) if class_in(calendar, day) in base))
                others = tuple(day for day in range(calendar[1]) if day not in whole)
                self.check_plain(calendar, whole)
                self.check_plain(calendar, whole[1:])
                self.check_plain(calendar, whole[:-1])
                self.check_plain(calendar, tuple(sorted(whole + others[:1])))
                self.check_plain(calendar, tuple(sorted(whole[1:] + others[-1:])))
                self.check_plain(calendar, whole[::2])
                self.check_plain(calendar, others)

    def test_a_class_with_just_as_many_days_there_as_not(self):
        self.assertEqual(plain_expression((0, 14, ()), (0,)), ((), (), (0,)))
        self.assertEqual(plain_expression((0, 14, ()), (7,)), ((), (), (7,)))
        self.assertEqual(plain_expression((0, 14, ()), (0, 7)), ((0,), (), ()))
        self.assertEqual(plain_expression((0, 28, ()), (0, 7, 8)), ((), (), (0, 7, 8)))
        self.assertEqual(plain_expression((0, 28, ()), (0, 7, 21)), ((0,), (14,), ()))
        self.assertEqual(plain_expression((0, 4, (0, 1, 2, 3)), (1, 2)), ((), (), (1, 2)))
        self.assertEqual(plain_expression((0, 4, (0, 1, 2, 3)), (1, 2, 3)), ((7,), (0,), ()))

    def test_no_expression_of_the_days_has_fewer_dates(self):
        for calendar in TINY:
            for days in tuples_of(range(calendar[1])):
                plain = plain_expression(calendar, days)
                fewest = min(len(expression_with(calendar, base, days)[1] + expression_with(calendar, base, days)[2])
                             for base in tuples_of(standing_in(calendar)))
                self.assertEqual(len(plain[1]) + len(plain[2]), fewest)
                self.check_plain(calendar, days)

    def test_no_expression_over_all_bases_has_fewer_dates(self):
        for calendar in TINY[:7]:
            for days in tuples_of(range(calendar[1])):
                plain = plain_expression(calendar, days)
                for base in BASES:
                    other = expression_with(calendar, base, days)
                    self.assertEqual(expressed(calendar, other), days)
                    self.assertGreaterEqual(len(other[1]) + len(other[2]), len(plain[1]) + len(plain[2]))


class TestExpressed(unittest.TestCase):

    def test_all_bases_with_days_of_a_longer_calendar(self):
        calendar = (4, 30, (1, 2, 29))
        for days in ((), (0,), (1, 2, 29), (0, 1, 7, 14, 21, 28), tuple(range(30)), tuple(range(1, 30, 3))):
            for base in BASES:
                self.assertEqual(expressed(calendar, expression_with(calendar, base, days)), days)

    def test_dates_not_and_dates_also_together(self):
        calendar = (0, 14, (3,))
        self.assertEqual(expressed(calendar, ((0, 1), (0, 8), (2, 3, 13))), (1, 2, 3, 7, 13))
        self.assertEqual(expressed(calendar, ((), (), (13,))), (13,))
        self.assertEqual(expressed(calendar, ((7,), (3,), ())), ())

    def test_bases_with_classes_without_days(self):
        self.assertEqual(expressed((2, 1, ()), ((0, 1, 7), (), ())), ())
        self.assertEqual(expressed((2, 1, ()), ((0, 2, 7), (), ())), (0,))
        self.assertEqual(expressed((2, 1, ()), ((0, 2, 7), (0,), ())), ())
        self.assertEqual(expressed((2, 1, ()), ((0, 7), (), (0,))), (0,))


class TestConventions(unittest.TestCase):

    def test_functions_of_days(self):
        for calendar in ALL[::7] + TINY:
            for day in (0, calendar[1] - 1):
                check_conventions(self, class_of, calendar=calendar, day=day)
            for kind in range(8):
                check_conventions(self, days_of_class, calendar=calendar, kind=kind)
            for days in ((), (0,), tuple(range(0, calendar[1], 2))):
                check_conventions(self, plain_expression, calendar=calendar, days=days)
                for base in ((), (0, 3, 7), tuple(range(8))):
                    expression = expression_with(calendar, base, days)
                    check_conventions(self, expressed, calendar=calendar, expression=expression)


if __name__ == "__main__":
    unittest.main()
