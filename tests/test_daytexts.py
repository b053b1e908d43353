"""Part B: days as texts, there and back."""

import unittest

from risingsheets.days import days_of_class, plain_expression
from risingsheets.daytexts import days_text, read_days
from risingsheets.errors import BadText, SheetError
from tests.calendars import ALL, TINY, WORDS, changed, standing_in, text_with, texts_with, tuples_of
from tests.values import GREAT, ODD, check_conventions

# A Thursday first; day 4 is a holiday, and there is no Monday.
WEEK = (3, 10, (4,))
MONTH = (0, 28, (2, 9))
SIGNS = "0123456789 ,+-:daeflmnorstuvwyADNT\n"


class TestTexts(unittest.TestCase):

    def test_daily_never_and_words(self):
        everything = tuple(range(28))
        self.assertEqual(days_text(MONTH, everything), "daily")
        self.assertEqual(days_text(MONTH, ()), "never")
        for kind in range(8):
            days = days_of_class(MONTH, kind)
            self.assertEqual(days_text(MONTH, days), WORDS[kind])
            self.assertEqual(days_text(MONTH, tuple(day for day in everything if day not in days)),
                             "+".join(WORDS[:kind] + WORDS[kind + 1:]))

    def test_not_and_also(self):
        self.assertEqual(days_text(MONTH, (0, 7, 14)), "mo not 21")
        self.assertEqual(days_text(MONTH, (0, 7, 14, 21, 22)), "mo also 22")
        self.assertEqual(days_text(MONTH, (0, 2, 7, 14, 22)), "mo not 21 also 2,22")
        self.assertEqual(days_text(MONTH, tuple(range(1, 27))), "daily not 0,27")
        self.assertEqual(days_text(MONTH, (0, 9, 27)), "never also 0,9,27")
        self.assertEqual(days_text((0, 400, ()), tuple(range(1, 400))), "daily not 0")
        self.assertEqual(days_text((0, 400, ()), (399,)), "never also 399")

    def test_a_calendar_with_one_class_alone(self):
        self.assertEqual([days_text((5, 1, ()), days) for days in ((), (0,))], ["never", "daily"])
        self.assertEqual([days_text((0, 3, (0, 1, 2)), days) for days in ((0, 1, 2), (1,), (0, 2))],
                         ["daily", "never also 1", "daily not 1"])

    def test_the_text_is_that_of_the_plain_expression(self):
        for calendar in ALL + TINY:
            for days in ((), (0,), tuple(range(calendar[1])), tuple(range(0, calendar[1], 2)),
                         tuple(range(calendar[1] // 3, calendar[1])), tuple(range(0, calendar[1], 7))):
                text = days_text(calendar, days)
                self.assertEqual(text, text_with(calendar, plain_expression(calendar, days)))
                self.assertEqual(read_days(calendar, text), days)


class TestReading(unittest.TestCase):

    def test_each_text_of_the_days_is_read(self):
        for calendar in TINY[:7]:
            for days in tuples_of(range(calendar[1])):
                self.assertEqual(read_days(calendar, days_text(calendar, days)), days)
                for text in texts_with(calendar, days):
                    self.assertEqual(read_days(calendar, text), days)

    def test_each_text_of_some_days_of_longer_calendars_is_read(self):
        for calendar in (WEEK, MONTH, (6, 60, (0, 59)), (2, 7, (6,))):
            for days in ((), (0,), (1, 4, 5), tuple(range(calendar[1])), tuple(range(0, calendar[1], 3))):
                days = tuple(day for day in days if day < calendar[1])
                for text in texts_with(calendar, days):
                    self.assertEqual(read_days(calendar, text), days)

    def test_words_stand_for_all_days_of_their_classes(self):
        for kind in (1, 2, 3, 4, 5, 6, 7):
            self.assertEqual(read_days(WEEK, WORDS[kind]), days_of_class(WEEK, kind))
        self.assertEqual(read_days(WEEK, "th+sa+hol not 0 also 1,8"), (1, 2, 4, 7, 8, 9))


class TestBadTexts(unittest.TestCase):

    def refuses(self, calendar, *values):
        for value in values:
            with self.subTest(value=repr(value)[:200]), self.assertRaises(BadText) as caught:
                read_days(calendar, value)
            self.assertIsInstance(caught.exception, SheetError)
            self.assertIsInstance(caught.exception, ValueError)

    def test_values_of_any_kind(self):
        self.refuses(WEEK, *ODD)
        self.refuses(WEEK, ["daily"], ("daily",), {"daily": 1}, b"daily", 0, [], ("th", (), ()))

    def test_blanks_capitals_and_line_feeds(self):
        self.refuses(WEEK, "", " ", "  ", "\n", " daily", "daily ", "daily  not 9", "daily not  9", "daily not 9 ",
                     "daily not 8, 9", "daily not 8 ,9", "th also 1  also 2", "th  also 1", "Daily", "DAILY", "dailY",
                     "Th", "TH", "th Not 0", "th not 0 Also 1", "daily\n", "\ndaily", "daily\nnot 9", "daily not\n9",
                     "daily not 9\n", "th + fr", "th+ fr", "th fr", "th,fr", "th not 0,\n7", "th\tnot 0")

    def test_words(self):
        self.refuses(WEEK, "mo", "mo+tu", "tu+mo", "mo+th", "fr+th", "th+th", "th+fr+th", "hol+th", "th+", "+th", "+",
                     "th++fr", "thu", "t", "holiday", "thfr", "daily+th", "th+daily", "never+th", "th+never",
                     "daily+never", "daily daily", "not", "also", "nothing", "none", "all", "0", "1", "3", "7")

    def test_all_classes_that_have_days_written_out(self):
        self.refuses(WEEK, "tu+we+th+fr+sa+su+hol", "tu+we+th+fr+sa+su+hol not 9", "mo+tu+we+th+fr+sa+su+hol")
        self.refuses((0, 7, ()), "mo+tu+we+th+fr+sa+su", "hol", "never+hol", "daily+hol")
        self.refuses((0, 1, ()), "mo", "mo not 0", "tu")
        self.refuses((0, 1, (0,)), "hol", "mo")
        self.assertEqual(read_days((0, 7, ()), "mo+tu+we+th+fr+sa"), (0, 1, 2, 3, 4, 5))

    def test_order_of_dates(self):
        self.refuses(WEEK, "th not 7,0", "th not 0,0", "th not 0,7,7", "th not 7,7", "th also 8,1", "th also 1,1",
                     "daily not 5,3", "never also 4,2", "never also 0,2,1", "never also 0,1,1")

    def test_figures(self):
        self.refuses(WEEK, "th not 00", "th not 07", "th not 0,07", "th also 01", "th not +0", "th not -0", "th not -1",
                     "th also +1", "th not 0x0", "th not a", "th not 0.0", "th not 7.", "th not 1e0", "th not 0_7",
                     "never also 0,,1", "never also ,1", "never also 1,", "never also ,", "never also \u0661",
                     "never also \u00b2")

    def test_dates_behind_the_span(self):
        self.refuses(WEEK, "daily not 10", "daily not 9,10", "never also 10", "th also 10", "th also 14", "th not 14",
                     "th not 400", "never also 399", "never also 400", "never also 1000")
        self.refuses((0, 400, ()), "never also 400", "daily not 400", "daily not 1000", "mo not 399,400")
        self.assertEqual(read_days((0, 400, ()), "never also 399"), (399,))

    def test_far_too_many_figures(self):
        for figures in (str(GREAT), "9" * 5000, "1" + "0" * 19000, "0" * 10000):
            self.refuses(WEEK, "never also " + figures, "th not 0," + figures, "daily not " + figures)
        self.refuses(WEEK, "never also " + ",".join(["1"] * 9000), "+".join(["th"] * 6000), "a" * 20000, " not " * 4000)

    def test_dates_on_the_wrong_side(self):
        self.refuses(WEEK, "daily also 2", "never not 2", "th not 1", "th also 0", "th not 0,1", "th also 0,1",
                     "th not 4", "hol also 4", "hol not 0", "th not 0,7,8", "th also 1,7", "daily not 1 also 1",
                     "daily not 1 also 2", "never not 1 also 1")

    def test_not_and_also_without_dates_and_out_of_order(self):
        self.refuses(WEEK, "th not", "th not ", "th also", "th also ", "th not also 1", "th not  also 1",
                     "th not 0 also", "th not 0 also ", "th also not 0", "th also 1 not 0", "daily not", "never also",
                     "not 1", "also 1", " not 1", " also 1", "th not 0 not 7", "th also 1 also 2",
                     "th not 0 also 1 also 2", "th not 0 also 1 not 7", "th not 0,also 1", "th not 0also 1", "thnot 0",
                     "th not0", "th also1")

    def test_nothing_beside_the_texts_of_expressions_is_read(self):
        for calendar in ((3, 4, ()), (5, 4, (1,)), (0, 3, (0, 1, 2))):
            texts = {text: days for days in tuples_of(range(calendar[1])) for text in texts_with(calendar, days)}
            for text in sorted(texts)[::5]:
                for other in changed(text, SIGNS):
                    self.assertEqual(self.read_or_none(calendar, other), texts.get(other), other)

    def test_nothing_beside_the_texts_of_a_longer_calendar_is_read(self):
        calendar = (5, 12, (11,))
        for days in ((), (0, 7), (2, 10, 11), tuple(range(12))):
            for text in texts_with(calendar, days)[::51]:
                for other in changed(text, SIGNS):
                    told = self.read_or_none(calendar, other)
                    if told is not None:
                        self.assertIn(other, texts_with(calendar, told))

    def read_or_none(self, calendar, text):
        try:
            return read_days(calendar, text)
        except BadText:
            return None


class TestConventions(unittest.TestCase):

    def test_functions_of_texts_of_days(self):
        for calendar in TINY + [WEEK, MONTH]:
            for days in ((), (0,), tuple(range(calendar[1]))):
                check_conventions(self, days_text, calendar=calendar, days=days)
            for kind in standing_in(calendar):
                check_conventions(self, read_days, calendar=calendar, value=WORDS[kind])
            for value in ODD + ("daily", "never", "daily not 0", "never also 0", "mo", "th not 0,7"):
                check_conventions(self, read_days, calendar=calendar, value=value)


if __name__ == "__main__":
    unittest.main()
