"""Part B: minutes as the texts of a clock."""

import unittest
from itertools import product

from risingsheets.clocks import clock_text, read_clock
from risingsheets.errors import BadText, SheetError
from tests.values import GREAT, ODD, check_conventions

TEXTS = {f"{hour}:{minute:02}": 60 * hour + minute for hour in range(48) for minute in range(60)}


class TestClocks(unittest.TestCase):

    def test_all_minutes_there_and_back(self):
        self.assertEqual(sorted(TEXTS.values()), list(range(2880)))
        for text, minute in TEXTS.items():
            self.assertEqual(clock_text(minute), text)
            self.assertEqual(read_clock(text), minute)

    def test_some_minutes(self):
        for minute, text in ((0, "0:00"), (9, "0:09"), (59, "0:59"), (60, "1:00"), (599, "9:59"), (600, "10:00"),
                             (1439, "23:59"), (1440, "24:00"), (2879, "47:59")):
            self.assertEqual((clock_text(minute), read_clock(text)), (text, minute))

    def test_all_short_texts_of_figures_and_colons(self):
        for many in range(6):
            for signs in product("0123456789:", repeat=many):
                text = "".join(signs)
                self.assertEqual(self.read_or_none(text), TEXTS.get(text), text)

    def test_texts_with_a_sign_put_in_or_changed(self):
        for text in ("0:00", "7:05", "9:59", "10:00", "24:10", "47:59"):
            for place in range(len(text) + 1):
                for sign in " +-.,:;_\nabx0159\t":
                    for other in (text[:place] + sign + text[place:], text[:place] + sign + text[place + 1:]):
                        self.assertEqual(self.read_or_none(other), TEXTS.get(other), other)

    def read_or_none(self, text):
        try:
            return read_clock(text)
        except BadText:
            return None


class TestBadTexts(unittest.TestCase):

    def refuses(self, *values):
        for value in values:
            with self.subTest(value=repr(value)[:200]), self.assertRaises(BadText) as caught:
                read_clock(value)
            self.assertIsInstance(caught.exception, SheetError)
            self.assertIsInstance(caught.exception, ValueError)

    def test_values_of_any_kind(self):
        self.refuses(*ODD)
        self.refuses(0, 425, ["7:05"], ("7", "05"), ("7:05",), {"7:05": 425}, b"7:05", [], [":"], [7, 5])

    def test_minutes_that_are_none(self):
        self.refuses("7:5", "7:", "7:60", "7:61", "7:99", "7:005", "7:050", "7:5 ", "7: 5", "7:-5", "7:+5", "7:5a",
                     "7:a5")

    def test_hours_that_are_none(self):
        self.refuses("48:00", "48:01", "49:00", "99:59", "100:00", "00:00", "07:05", "00:05", "010:00", ":05", ":00",
                     "-1:00", "-0:00", "+7:05", " 7:05", "a:05")

    def test_blanks_and_colons(self):
        self.refuses("", ":", "::", "705", "7 05", "7.05", "7,05", "7::05", "7:0:5", "7:05:", ":7:05", "7:05:00",
                     "7:05 ", " 7:05", "7 :05", "7: 05", "7:05\n", "\n7:05", "7\n:05")

    def test_signs_beyond_ascii(self):
        self.refuses("\u0667:05", "7:0\u0665", "7:\u00b25", "\u00b9:05", "7\uff1a05")

    def test_far_too_many_figures(self):
        for figures in (str(GREAT), "7" * 5000, "1" * 19000, "0" * 10000):
            self.refuses(figures, figures + ":05", "7:" + figures, "7:05" + figures, figures + ":" + figures)


class TestConventions(unittest.TestCase):

    def test_functions_of_clocks(self):
        for minute in (0, 5, 425, 1439, 1440, 2879):
            check_conventions(self, clock_text, minute=minute)
            check_conventions(self, read_clock, value=clock_text(minute))
        for value in ODD:
            check_conventions(self, read_clock, value=value)


if __name__ == "__main__":
    unittest.main()
