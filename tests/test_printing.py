"""Part H: what is wrong with editions, and their texts line by line."""

import re
import unittest

from risingsheets.gathering import gathering_error
from risingsheets.paging import paging_error
from risingsheets.printing import edition_error, edition_text
from risingsheets.sheets import sheet_error, told_sheet
from tests.drawn import CALENDAR, cuts_of_plan, plan_of
from tests.editions import EDITIONS, SPECIAL, days_of_all_kinds, drawn_edition, many_parts, singles, text_with, wordy
from tests.great import GREAT_PLANS, in_time
from tests.patterns import EMPTY_SHEET, SINGLE, even_sheet
from tests.values import GREAT, ODD, check_conventions, check_told, put

THREE = told_sheet(plan_of((("abel", 60), ("bron", 70)), (("abel", 80), ("bron", 90)), (("abel", 100), ("bron", 110)),
                           (("bron", 119), ("cole", 130))), ())
EDITION = (THREE, ((1, 3, 20), SINGLE), (6, 2), ((2,), (2, 3)))


class TestEditionErrors(unittest.TestCase):

    def tells(self, expected, *values):
        for value in values:
            check_told(self, expected, edition_error, value)

    def test_editions(self):
        self.tells(None, EDITION)
        for edition in EDITIONS:
            self.assertIsNone(edition_error(edition))

    def test_form(self):
        self.tells("form", list(EDITION), EDITION[:3], EDITION + (None,), (), (EDITION,))
        self.tells("form", *[value for value in ODD if not (isinstance(value, tuple) and len(value) == 4)])
        self.tells(("sheet", "form"), (4, 3, 2, 1), (None,) * 4)

    def test_any_items(self):
        for value in ODD:
            self.tells(("sheet", sheet_error(value)), put(EDITION, (0,), value))
            self.tells(("gathering", gathering_error(THREE, value)), put(EDITION, (1,), value))
            self.tells("size", put(EDITION, (2,), value))
            self.tells(("paging", paging_error(THREE, *EDITION[1:3], value)), put(EDITION, (3,), value))

    def test_what_the_other_errors_tell(self):
        self.tells(("sheet", ("plan", "form")), put(EDITION, (0, 0), None))
        self.tells(("sheet", ("cuts", ("cut", 0))), put(EDITION, (0, 1), (("train", 1, 2),)))
        self.tells(("sheet", ("row", ("bron", 0), ("abel", 0))),
                   put(EDITION, (0, 2), (("bron", 0), ("abel", 0), ("cole", 0))))
        self.tells(("gathering", ("group", 0)), put(EDITION, (1,), ((1, 4, 20),)), put(EDITION, (1,), ((1, 3, 21),)))
        self.tells(("gathering", "end"), put(EDITION, (1,), ((1, 3, 20),)))
        self.tells(("paging", ("across", 0)), put(EDITION, (2, 0), 3))
        self.tells(("paging", ("down", 0)), put(EDITION, (2, 1), 1))
        self.tells(("paging", ("across", 1)), put(EDITION, (3, 0), (1,)))
        self.tells(("paging", ("down", 1)), put(EDITION, (3, 1), (2,)))
        self.tells(("paging", "form"), put(EDITION, (3, 1), [2, 3]))

    def test_sizes(self):
        bare = (EMPTY_SHEET, (), (3, 1), ((), ()))
        self.tells(None, *[put(bare, (2,), size) for size in ((3, 1), (24, 40), (3, 40), (24, 1), (10, 7))])
        for size in ((2, 1), (25, 40), (3, 0), (24, 41), (3,), (3, 1, 1), [3, 1], (True, 1), (3, True), ("3", 1),
                     (3, "1"), (3, None), (None, 1), ((3,), 1), (GREAT, 1), (3, GREAT), (-GREAT, 1), (-3, -1), ()):
            self.tells("size", put(bare, (2,), size), put(EDITION, (2,), size))

    def test_two_things_wrong(self):
        wrong = (None, list(EDITION[1]), (2, 1), ((2,), (2,)))
        told = (("sheet", "form"), ("gathering", "form"), "size", ("paging", ("down", 1)))
        for first in range(4):
            self.tells(told[first], put(EDITION, (first,), wrong[first]))
            for second in range(first + 1, 4):
                self.tells(told[first], put(put(EDITION, (first,), wrong[first]), (second,), wrong[second]))
        self.tells("form", [None, None, None, None], (None,) * 5)


class TestTexts(unittest.TestCase):

    def shows(self, edition, *lines):
        self.assertIsNone(edition_error(edition))
        self.assertEqual(edition_text(edition).split("\n"), list(lines))

    def test_against_the_words_of_the_document(self):
        for edition in EDITIONS:
            self.assertEqual(edition_text(edition), text_with(edition))

    def test_pages_across_and_down(self):
        self.shows(
            (THREE, (SINGLE,) * 4, (3, 2), ((3, 4), (1, 3))),
            "risingsheets 3 2", "calendar 3 30 holidays 4,11", "a never also 0",
            "page 1 1", "train                   1       2       3", "days                    a       a       a",
            "abel                 1:00    1:20    1:40",
            "page 1 2", "train                   4", "days                    a", "abel                    .",
            "page 2 1", "train                   1       2       3", "days                    a       a       a",
            "bron                 1:10    1:30    1:50", "cole                    .       .       .",
            "page 2 2", "train                   4", "days                    a",
            "bron                 1:59", "cole                 2:10")

    def test_steps(self):
        self.shows(
            (THREE, ((1, 3, 20), SINGLE), (24, 40), ((2,), (3,))),
            "risingsheets 24 40", "calendar 3 30 holidays 4,11", "a never also 0", "page 1 1",
            "train                   1   every       3       4", "days                    a      20       a       a",
            "abel                 1:00       .    1:40       .", "bron                 1:10       .    1:50    1:59",
            "cole                    .       .       .    2:10")
        for size, word in ((2, "every2"), (3, "every3"), (4, "every4")):
            sheet = even_sheet(4 * size, size, 100, 7)
            lines = edition_text((sheet, ((size, 4, 100),), (24, 40), ((1,), (3,)))).split("\n")
            place = 17 + 8 * size
            self.assertEqual([line[place:place + 8].strip() for line in lines[4:]], [word, "100", ".", ".", "."])
            self.assertEqual([len(line) for line in lines[4:]], [17 + 8 * (2 * size + 1)] * 5)

    def test_steps_of_more_rows_than_columns(self):
        rows = [tuple((name, 100 * k + 10 * place) for place, name in enumerate("abcdefg")) for k in range(3)]
        lines = edition_text((told_sheet(plan_of(*rows), ()), ((1, 3, 100),), (3, 40), ((1,), (7,)))).split("\n")
        self.assertEqual([line[25:33] for line in lines[4:]], ["   every", "     100"] + ["       ."] * 7)

    def test_letters(self):
        sheet = days_of_all_kinds()
        edition = (sheet, singles(sheet), (24, 40), ((24,), (2,)))
        lines = edition_text(edition).split("\n")
        self.assertEqual([line.split(" ")[0] for line in lines[2:26]], list("abcdefghijklmnopqrstuvwx"))
        self.assertEqual(lines[26], "page 1 1")
        # The least minute is that of the train 24, so its column stands first.
        self.assertEqual(lines[27].split()[1:], [str(number) for number in range(24, 0, -1)])
        self.assertEqual(lines[28].split()[1:], list("abcdefghijklmnopqrstuvwx"))
        self.assertEqual(lines[2], "a never also 3,4,5,6,7,8,9,10,11,12,13,14,15,16")

    def test_letters_are_given_by_columns_and_days_come_once(self):
        trains = ((1, (2,), (("abel", 50),)), (2, (1,), (("abel", 40),)), (3, (2,), (("abel", 30),)),
                  (4, (1, 2), (("abel", 20),)))
        sheet = told_sheet((CALENDAR, trains), ())
        self.shows((sheet, singles(sheet), (4, 1), ((4,), (1,))),
                   "risingsheets 4 1", "calendar 3 30 holidays 4,11", "a never also 1,2", "b never also 2",
                   "c never also 1", "page 1 1", "train                   4       3       2       1",
                   "days                    a       b       c       b",
                   "abel                 0:20    0:30    0:40    0:50")

    def test_letters_of_columns_that_are_not_printed(self):
        sheet = even_sheet(6, 2)
        days = tuple((number, (0, 1) if place % 2 else (5,), calls)
                     for place, (number, _, calls) in enumerate(sheet[0][1]))
        sheet = ((CALENDAR, days),) + sheet[1:]
        lines = edition_text((sheet, ((2, 3, 20),), (5, 3), ((1,), (3,)))).split("\n")
        self.assertEqual(lines[2:4], ["a never also 5", "b never also 0,1"])
        self.assertEqual(lines[6].split(), ["days", "a", "b", "20", "a", "b"])

    def test_parts_of_trains_and_stations(self):
        loop = plan_of((("abel", 60), ("bron", 70), ("abel", 80), ("bron", 90)), (("bron", 75),))
        cuts = (("station", "abel", 1), ("train", 1, 2), ("train", 1, 3))
        sheet = (loop, cuts, (("abel", 0), ("abel", 1), ("bron", 0)), ((1, 0), (2, 0), (1, 2), (1, 3)))
        self.shows((sheet, singles(sheet), (24, 40), ((4,), (3,))),
                   "risingsheets 24 40", "calendar 3 30 holidays 4,11", "a never also 0", "page 1 1",
                   "train                 1/1       2     1/2     1/3",
                   "days                    a       a       a       a",
                   "abel/1               1:00       .       .       .",
                   "abel/2                  .       .    1:20       .",
                   "bron                 1:10    1:15       .    1:30")

    def test_more_than_a_hundred_parts(self):
        sheet = many_parts(9999, "abcdefghijkl", 105)
        lines = edition_text((sheet, singles(sheet), (24, 40), ((24, 48, 72, 96, 105), (40, 80, 105)))).split("\n")
        trains = [line for line in lines if line.startswith("train")]
        self.assertEqual(len(trains), 15)
        self.assertEqual(trains[0][:33], "train              9999/1  9999/2")
        self.assertEqual(trains[4][-24:], "9999/1039999/1049999/105")
        self.assertEqual(lines[-1][:17], "abcdefghijkl/104 ")
        self.assertEqual(lines[-1][-8:], "    1:44")

    def test_wordy_stations(self):
        plain, stations, trains = wordy()
        lines = edition_text((plain, (SINGLE,) * 2, (3, 40), ((2,), (8,)))).split("\n")
        self.assertEqual(lines[3:8], [
            "page 1 1", "train                   1       2", "days                    a       a",
            "page                 0:00    1:01", "train                0:05    1:06"])
        lines = edition_text((stations, (SINGLE,) * 2, (3, 40), ((2,), (16,)))).split("\n")
        self.assertIn("risingsheets/1       0:25       .", lines)
        self.assertIn("risingsheets/2          .    1:26", lines)
        self.assertIn("train/2                 .    1:06", lines)
        self.assertIn("train                   1       2", lines)
        lines = edition_text((trains, (SINGLE,) * 4, (4, 40), ((4,), (8,)))).split("\n")
        self.assertEqual(lines[4].split(), ["train", "1/1", "1/2", "1/3", "2"])

    def test_clocks_of_all_lengths(self):
        sheet = told_sheet(plan_of((("abel", 0), ("bron", 599), ("cole", 600), ("dell", 1440), ("elm", 2879))), ())
        lines = edition_text((sheet, (SINGLE,), (3, 40), ((1,), (5,)))).split("\n")
        self.assertEqual(lines[6:], ["abel                 0:00", "bron                 9:59",
                                     "cole                10:00",
                                     "dell                24:00", "elm                 47:59"])

    def test_no_trains(self):
        self.shows((EMPTY_SHEET, (), (3, 1), ((), ())), "risingsheets 3 1", "calendar 3 30 holidays 4,11")
        self.shows((EMPTY_SHEET, (), (24, 40), ((), ())), "risingsheets 24 40", "calendar 3 30 holidays 4,11")
        self.shows(((((0, 400, ()), ()), (), (), ()), (), (9, 9), ((), ())), "risingsheets 9 9", "calendar 0 400")

    def test_the_sizes_of_lines(self):
        for edition in EDITIONS:
            text = edition_text(edition)
            self.assertEqual(text, text.strip())
            for line in text.split("\n")[2 + len({train[1] for train in edition[0][0][1]}):]:
                if re.fullmatch("page [1-9][0-9]* [1-9][0-9]*", line):
                    self.assertLessEqual(len(line), 12)
                else:
                    self.assertGreaterEqual(len(line), 25)
                    self.assertEqual((len(line) - 17) % 8, 0)


class TestBounds(unittest.TestCase):

    def test_great_editions(self):
        for name, plan in GREAT_PLANS.items():
            sheet = told_sheet(plan, cuts_of_plan(plan))
            for wide, high in ((3, 1), (24, 40)):
                edition = drawn_edition(1, sheet, singles(sheet), wide, high)
                with self.subTest(name=name), in_time(self, name):
                    self.assertIsNone(edition_error(edition))
                    text = edition_text(edition)
                self.assertEqual(text, text_with(edition))


class TestConventions(unittest.TestCase):

    def test_functions_of_printing(self):
        for edition in EDITIONS[::12] + [drawn_edition(3, sheet) for sheet in SPECIAL]:
            check_conventions(self, edition_error, value=edition)
            check_conventions(self, edition_text, edition=edition)
        for value in ODD + (THREE, list(EDITION)):
            check_conventions(self, edition_error, value=value)


if __name__ == "__main__":
    unittest.main()
