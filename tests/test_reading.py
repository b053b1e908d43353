"""Part H: texts of editions read back, and texts that are those of no edition."""

import unittest

from risingsheets.errors import BadText, SheetError
from risingsheets.printing import edition_error, edition_text
from risingsheets.reading import read_edition
from risingsheets.sheets import told_sheet
from tests.calendars import changed
from tests.drawn import CALENDAR, cuts_of_plan, plan_of
from tests.editions import EDITIONS, SPECIAL, drawn_edition, many_parts, singles, text_with
from tests.great import GREAT_PLANS, in_time
from tests.patterns import EMPTY_SHEET, SINGLE, even_sheet
from tests.test_printing import EDITION
from tests.values import GREAT, ODD, check_conventions, plain, put

TEXT = edition_text(EDITION)
LINES = TEXT.split("\n")
SIGNS = " .:/0123456789abe\nA"

LOOP = plan_of((("abel", 60), ("bron", 70), ("abel", 80)))
CUT_TRAIN = (LOOP, (("train", 1, 2),), (("abel", 0), ("bron", 0)), ((1, 0), (1, 2)))
CUT_STATION = (LOOP, (("station", "abel", 1),), (("abel", 0), ("bron", 0), ("abel", 1)), ((1, 0),))

# Small enough to change each sign of their texts: a step, pages, cuts of both kinds, no trains.
SMALL = [
    EDITION, (CUT_TRAIN, (SINGLE,) * 2, (3, 2), ((1, 2), (1, 2))), (CUT_STATION, (SINGLE,), (24, 40), ((1,), (3,))),
    (EMPTY_SHEET, (), (10, 10), ((), ())), drawn_edition(1, even_sheet(6, 2, 100, 7), ((2, 3, 100),), 5, 2),
]


class Readings(unittest.TestCase):

    def refuses(self, *values):
        for value in values:
            with self.subTest(value=repr(value)[:400]), self.assertRaises(BadText) as caught:
                read_edition(value)
            self.assertIsInstance(caught.exception, SheetError)
            self.assertIsInstance(caught.exception, ValueError)

    def refuses_with(self, text, wrong):
        """Refuses the text with anything told instead of what it holds, at all places and at the first one."""
        for old, others in wrong.items():
            self.assertIn(old, text)
            for new in others:
                self.refuses(text.replace(old, new), text.replace(old, new, 1))

    def reads(self, edition, text):
        self.assertEqual(repr(read_edition(text)), repr(edition))

    def check(self, text):
        """Checks that a text is refused or is that of the edition that is read; returns whether it is read."""
        try:
            edition = read_edition(text)
        except BadText:
            return False
        self.assertIsNone(edition_error(edition), text)
        self.assertTrue(plain(edition))
        self.assertEqual(text_with(edition), text)
        return True


class TestThereAndBack(Readings):

    def test_each_edition(self):
        for edition in EDITIONS:
            self.reads(edition, edition_text(edition))

    def test_texts_told_from_the_words_of_the_document(self):
        for edition in EDITIONS:
            self.reads(edition, text_with(edition))

    def test_unlike_editions_have_unlike_texts(self):
        self.assertEqual(len({edition_text(edition) for edition in EDITIONS}), len(set(EDITIONS)))
        self.assertGreater(len(set(EDITIONS)), 300)

    def test_one_plan_in_many_editions(self):
        sheet = EDITION[0]
        texts = set()
        for gathering in (((1, 3, 20), SINGLE), (SINGLE,) * 4):
            for seed in range(40):
                edition = drawn_edition(seed, sheet, gathering)
                texts.add(edition_text(edition))
                self.reads(edition, edition_text(edition))
        self.assertGreater(len(texts), 40)

    def test_as_many_parts_as_there_can_be(self):
        sheet = many_parts(9999, "abcdefghijkl", 200)
        edition = drawn_edition(1, sheet, singles(sheet), 24, 40)
        text = edition_text(edition)
        self.assertIn("9999/200", text)
        self.reads(edition, text)

    def test_size_alone(self):
        self.reads(put(EDITION, (2,), (4, 40)), TEXT.replace("risingsheets 6 2", "risingsheets 4 40"))
        self.reads((EMPTY_SHEET, (), (3, 1), ((), ())), "risingsheets 3 1\ncalendar 3 30 holidays 4,11")
        self.reads(((((6, 1, ()), ()), (), (), ()), (), (24, 40), ((), ())), "risingsheets 24 40\ncalendar 6 1")

    def test_a_changed_clock_is_that_of_another_plan(self):
        other = put(EDITION, (0, 0, 1, 3, 2, 1), ("cole", 131))
        self.reads(other, TEXT.replace("2:10", "2:11"))


class TestChangedTexts(Readings):

    def test_each_sign(self):
        for edition in SMALL:
            text = edition_text(edition)
            told = [self.check(other) for other in changed(text, SIGNS)]
            self.assertTrue(any(told) and not all(told))

    def test_each_line(self):
        for edition in SMALL + EDITIONS[::9]:
            lines = edition_text(edition).split("\n")
            for place in range(len(lines) if len(lines) < 60 else 0):
                self.check("\n".join(lines[:place] + lines[place + 1:]))
                self.check("\n".join(lines[:place] + lines[place:place + 1] + lines[place:]))
                for other in range(place):
                    turned = list(lines)
                    turned[place], turned[other] = lines[other], lines[place]
                    self.check("\n".join(turned))

    def test_blanks_and_line_feeds(self):
        for edition in SMALL:
            text = edition_text(edition)
            self.refuses(text + "\n", "\n" + text, text + " ", " " + text, text + "\n\n", text.replace("\n", "\n\n"),
                         text.replace("\n", " \n"), text.replace("\n", "\n "), text.replace(" ", "  "), text + "\t",
                         text.replace("\n", "\r\n"), text.replace(" ", "\t"), text.upper(), text.replace("\n", ""))

    def test_parts_of_texts(self):
        for edition in SMALL[:3]:
            text = edition_text(edition)
            for place in range(len(text)):
                self.check(text[:place])
                self.check(text[place:])

    def test_first_lines(self):
        for line in ("risingsheets", "risingsheets 6", "risingsheets 6 2 1", "risingsheet 6 2", "risingsheets 6  2", "",
                     "risingsheets 06 2", "risingsheets 6 02", "risingsheets +6 2", "risingsheets 6,2",
                     "Risingsheets 6 2", "risingsheets 25 2", "risingsheets 6 41", "risingsheets 6 0",
                     "risingsheets 3 2", "risingsheets 6 1", "risingsheets 2 2", "risingsheets a 2",
                     "risingsheets 6 -2", "risingsheets " + "9" * 5000 + " 2"):
            self.refuses("\n".join([line] + LINES[1:]))
        for line in ("calendar 7 30 holidays 4,11", "calendar 3 030", "calendar 3", "calendar 3 30 holidays", "",
                     "calendar 3 401", "calendar 3 30 holidays 11,4", "calendar 3 30 holidays 4,30", "calendar 3 30 "):
            self.refuses("\n".join(LINES[:1] + [line] + LINES[2:]))
        bare = "\ntrain            \ndays             "
        for size in ("2 1", "25 1", "3 0", "3 41"):
            self.refuses(f"risingsheets {size}\ncalendar 0 7")
        empty = "risingsheets 3 1\ncalendar 0 7"
        self.refuses("risingsheets 3 1", "calendar 0 7", "", "\n", "\n\n\n", "risingsheets 3 1\n", f"{empty}\na daily",
                     f"{empty}\npage 1 1", f"{empty}\npage 1 1{bare}", f"{empty}\npage 1 1{bare}\nabel             ")

    def test_other_calendars(self):
        # Day 0 is told by its number, so the first weekday and the holidays change nothing else.
        self.reads(put(EDITION, (0, 0, 0), (5, 31, (4, 12))), TEXT.replace("3 30 holidays 4,11", "5 31 holidays 4,12"))
        self.refuses(TEXT.replace("3 30 holidays 4,11", "3 30 holidays 0"))

    def test_days_told_by_other_words(self):
        weekly = (((3, 14, ()), ((1, (0, 7), (("abel", 5),)), (2, (0,), (("abel", 6),)))), (), (("abel", 0),),
                  ((1, 0), (2, 0)))
        edition = (weekly, (SINGLE,) * 2, (3, 1), ((2,), (1,)))
        text = edition_text(edition)
        self.assertIn("\na th\nb never also 0\n", text)
        self.reads(edition, text)
        for told in ("never also 0,7", "th+fr not 1,8", "th not", "th,", " th", "th ", "Th", "never", "th not 0,7", ""):
            self.refuses(text.replace("a th", f"a {told}"))
        self.refuses(text.replace("b never also 0", "b th not 7"), text.replace("b never also 0", "b th"),
                     text.replace("a th", "b th"), text.replace("b never", "c never"), text.replace("a th", "A th"),
                     text.replace("\na th\nb never also 0\n", "\nb never also 0\na th\n"),
                     text.replace("a th", "a th\na th"), text.replace("page 1 1", "c daily\npage 1 1"),
                     text.replace("\nb never also 0", ""), text.replace("       a       b", "       b       a"),
                     text.replace("       a       b", "       a       a"),
                     text.replace("       a       b", "       a       c"))
        self.reads(put(edition, (0, 0, 1, 0, 1), (1, 8)), text.replace("a th", "a fr"))

    def test_page_numbers(self):
        self.refuses_with(TEXT, {
            "page 1 1": ("page 1 2", "page 2 1", "page 01 1", "page", "page 1 1 "),
            "page 2 1": ("page 1 1", "page 3 1", "page 1 2", "page 2 2", "page 2 01", "page 2", "page 2 1 1",
                         "page 2  1",
                         "Page 2 1", "page " + "2" * 9000 + " 1")})
        four = (EDITION[0], (SINGLE,) * 4, (3, 2), ((3, 4), (1, 3)))
        text = edition_text(four)
        self.reads(four, text)
        for old in ("page 1 1", "page 1 2", "page 2 1", "page 2 2"):
            for new in ("page 1 1", "page 1 2", "page 2 1", "page 2 2", "page 1 3", "page 3 1", "page 0 1", "page 2 0"):
                if old != new:
                    self.refuses(text.replace(old, new))

    def test_pages_that_do_not_fit_together(self):
        four = (EDITION[0], (SINGLE,) * 4, (3, 2), ((3, 4), (1, 3)))
        lines = edition_text(four).split("\n")
        pages = [place for place, line in enumerate(lines) if line.startswith("page")]
        self.assertEqual(pages, [3, 7, 11, 16])
        self.refuses("\n".join(lines[:11] + lines[16:]), "\n".join(lines[:16]), "\n".join(lines[:11]),
                     "\n".join(lines[:3] + lines[7:]), "\n".join(lines[:7] + lines[11:]), "\n".join(lines[:3]))
        # The first page alone is the text of an edition of what stands there.
        self.assertEqual(read_edition("\n".join(lines[:7]))[0][2:], ((("abel", 0),), ((1, 0), (2, 0), (3, 0))))
        for place in range(3, 21):
            self.refuses("\n".join(lines[:place] + lines[place + 1:]), "\n".join(lines[:place + 1] + lines[place:]))

    def test_steps_and_last_blocks(self):
        self.refuses_with(TEXT, {
            "      20": ("      10", "      40", "       0", "      21", "     020", "     -20", "       ."),
            "   every": ("  every1", "  every2", "   Every", "       2"),
            "    1:00": ("       .", "    1:01"),
            "    1:40": ("    1:41", "       .", "    1:20"),
            "    1:50": ("    1:49", "       ."),
            "every       3": ("every       4", "every       2", "every     3/1", "every       1"),
            "      1   every": ("    1/1   every", "      2   every")})
        # Twice as many trains in half the step would have the numbers 1, 3, 5 and so on up to 9.
        odd = TEXT.replace("every       3", "every       9").replace("      20", "      10")
        odd = odd.replace("       9       4", "       9      10")
        trains = tuple((1 + 2 * k, (0,), (("abel", 60 + 10 * k), ("bron", 70 + 10 * k))) for k in range(5))
        sheet = told_sheet((CALENDAR, trains + ((10, (0,), (("bron", 119), ("cole", 130))),)), ())
        self.reads((sheet, ((1, 5, 10), SINGLE), (6, 2), ((2,), (2, 3))), odd)

    def test_last_blocks_of_several_columns(self):
        edition = SMALL[4]
        text = edition_text(edition)
        self.reads(edition, text)
        numbers = [line for line in text.split("\n") if line.startswith("train")][0].split()
        self.assertEqual(numbers, ["train", "100", "107", "every2", "128", "135"])
        for old, new in (("135", "136"), ("107", "106"), ("every2", " every"), ("every2", "every3"), ("100", "101")):
            self.refuses(text.replace(old, new))
        last = edition[0][0][1][-1][2]
        for _, minute in last:
            clock = f"{minute // 60}:{minute % 60:02}"
            self.assertIn(clock, text)
            self.refuses(text.replace(clock, clock[:-1] + "9"), text.replace(clock, "   ."))

    def test_steps_at_the_edges_of_pages(self):
        head = "risingsheets 24 40\ncalendar 3 30\na daily\npage 1 1\ntrain            "
        days, row = "\ndays             ", "\nabel             "
        for trains, letters, cells in ((("every",), ("5",), (".",)), (("1", "every"), ("a", "5"), ("0:05", ".")),
                                       (("every", "1"), ("5", "a"), (".", "0:05")),
                                       (("1", "2", "every2", "5"), ("a", "a", "5", "a"), ("0:05", "0:06", ".", "0:15")),
                                       (("1", "every", "every", "3"), ("a", "5", "5", "a"), ("0:05", ".", ".", "0:15")),
                                       (("1", "every5", "3"), ("a", "5", "a"), ("0:05", ".", "0:15"))):
            told = ["".join(text.rjust(8) for text in texts) for texts in (trains, letters, cells)]
            self.refuses(head + told[0] + days + told[1] + row + told[2])
        right = (("1", "every", "3"), "a5a", ("0:05", ".", "0:15"))
        told = ["".join(text.rjust(8) for text in texts) for texts in right]
        trains = tuple((number, tuple(range(30)), (("abel", 5 * number),)) for number in (1, 2, 3))
        self.reads((told_sheet(((3, 30, ()), trains), ()), ((1, 3, 5),), (24, 40), ((1,), (1,))),
                   head + told[0] + days + told[1] + row + told[2])

    def test_too_many_trains_between(self):
        lines = ["risingsheets 24 40", "calendar 3 30", "a daily", "page 1 1",
                 "train                   1   every    2821", "days                    a       1       a",
                 "abel                 0:05       .    47:05"]
        self.refuses("\n".join(lines))
        lines[4:] = ["train                   1   every      25", lines[5], "abel                 0:05       .    0:29"]
        self.refuses("\n".join(lines))
        lines[4:] = ["train                   1   every      24", lines[5], "abel                 0:05       .    0:28"]
        self.assertEqual(read_edition("\n".join(lines))[1], ((1, 24, 1),))

    def test_parts(self):
        text = edition_text(SMALL[1])
        self.refuses_with(text, {
            "1/1": ("1/2", "  1", "1/0", " 1/", " /1", "1//1"),
            "1/2": ("1/1", "1/3", "2/2", "  1", "1/02", "01/2")})
        text = edition_text(SMALL[2])
        self.refuses_with(text, {
            "abel/1   ": ("abel/2   ", "abel     ", "Abel/1   ", "abel/    ", " abel/1  "),
            "abel/2   ": ("abel/1   ", "abel/3   ", "abel     ", "bron/2   ", "abel/02  ", "abel/2000"),
            "bron  ": ("bron/1", "      ")})

    def test_names(self):
        for name in ("abcdefghijklm", "a b", "a.b", "ab1", "A", "", "abel/", "/1"):
            self.refuses(TEXT.replace("cole" + " " * 13, name.ljust(17)))
        self.reads(put(EDITION, (0,), told_sheet(plan_of(*[tuple((name.replace("cole", "abcdefghijkl"), minute)
                                                                 for name, minute in train[2])
                                                           for train in EDITION[0][0][1]]), ())),
                   TEXT.replace("cole        ", "abcdefghijkl"))

    def test_clocks(self):
        for clock in ("2:9", "02:10", "48:00", "2:60", "2.10", "2:010", "", "..", "-2:10", "2:1o", "130", "2:100"):
            self.refuses(TEXT.replace("    2:10", clock.rjust(8)))

    def test_two_calls_in_the_wrong_order(self):
        # Behind 2:10 the train would go back in time.
        self.refuses(TEXT.replace("2:10", "1:58"), TEXT.replace("2:10", "1:59"))
        self.reads(put(EDITION, (0, 0, 1, 3, 2, 1), ("cole", 120)), TEXT.replace("2:10", "2:00"))
        # Columns in which the minutes of a row fall are no columns of a sheet.
        self.refuses(TEXT.replace("1:59", "1:49"))

    def test_rows_without_calls(self):
        row = "dell                    .       .       .       ."
        self.refuses("\n".join(LINES + [row]), "\n".join(LINES + [row.replace("dell", "cole")]))
        self.refuses(TEXT.replace("    2:10", "       ."))

    def test_the_same_row_on_two_pages(self):
        self.refuses("\n".join(LINES + LINES[-1:]), "\n".join(LINES + ["page 3 1"] + LINES[-3:]))


class TestNoTexts(Readings):

    def test_any_values(self):
        self.refuses(*ODD, TEXT.encode("ascii"), [TEXT], (TEXT,), LINES, EDITION)

    def test_texts_of_other_kinds(self):
        self.refuses("supplement", "page 1 1", "risingsheets", "calendar 3 30", "a daily", "page 1 1\n" + TEXT,
                     TEXT * 2)

    def test_far_too_many_figures(self):
        for figures in ("9" * 5000, "0" * 5000, "1" * 20000):
            for old in ("risingsheets 6", "calendar 3", "also 0", "page 2", "       1", "      20", "1:00", "every"):
                self.assertIn(old, TEXT)
                self.refuses(TEXT.replace(old, old + figures), TEXT.replace(old, figures))
        self.refuses(TEXT.replace("1:00", f"{GREAT}:00"))

    def test_long_texts(self):
        many = "\nabel                 1:00" * 800
        head = "risingsheets 3 1\ncalendar 0 7\na daily\npage 1 1\ntrain                   1\ndays                    a"
        with in_time(self):
            self.refuses(head + many, "page 1 1\n" * 2000, "\n" * 20000, " " * 20000, "/" * 20000,
                         "risingsheets 3 1\ncalendar 0 7\n" + "page 1 1\n" * 2000, "\n".join(["a daily"] * 2000))
            self.refuses(head[:-26] + "1" * 8 * 900, head + "\nabel" + " " * 16000)


class TestBounds(Readings):

    def test_great_editions(self):
        for name, plan in GREAT_PLANS.items():
            sheet = told_sheet(plan, cuts_of_plan(plan))
            for wide, high in ((3, 1), (24, 40)):
                edition = drawn_edition(1, sheet, singles(sheet), wide, high)
                text = edition_text(edition)
                with self.subTest(name=name), in_time(self, name):
                    self.assertEqual(read_edition(text), edition)
                with self.subTest(name=name), in_time(self, name):
                    self.refuses(text + "\n", text[:-1] + "x", text.replace("page 1 1", "page 1 2"))


class TestConventions(Readings):

    def test_functions_of_reading(self):
        for edition in EDITIONS[::12] + [drawn_edition(3, sheet) for sheet in SPECIAL]:
            check_conventions(self, read_edition, value=edition_text(edition))
        for value in ODD + (TEXT, TEXT + "\n", TEXT.replace("2:10", "2:11"), TEXT.replace("      20", "      10")):
            check_conventions(self, read_edition, value=value)


if __name__ == "__main__":
    unittest.main()
