"""Part B: plans as texts, there and back."""

import re
import unittest

from risingsheets.daytexts import read_days
from risingsheets.errors import BadPlan, BadText, SheetError
from risingsheets.plans import plan_error
from risingsheets.plantexts import plan_text, read_plan
from tests.calendars import changed, texts_with, tuples_of
from tests.test_plan_answers import BUSY, EMPTY
from tests.test_plans import NAMES, SMALL, greatest
from tests.values import GREAT, ODD, check_conventions

WEEK = (3, 10, (4,))
SIGNS = "019 ,:+-abdhlnoty\nA"

# Stations that are called as the words of texts are, at the least and greatest minutes, of the greatest numbers.
WORDY = ((0, 8, (0, 7)), (
    (1, (0,), (("daily", 0), ("not", 1), ("mo", 59), ("also", 60), ("never", 1439), ("hol", 1440), ("calendar", 2879))),
    (10, (0, 7), (("holidays", 2879),)), (9998, tuple(range(8)), (("a", 5),)),
    (9999, (1, 2, 3), (("abcdefghijkl", 5), ("z", 65))),
))

PLANS = (
    EMPTY, SMALL, BUSY, WORDY, greatest(),
    ((0, 1, ()), ()), ((6, 400, tuple(range(400))), ()), ((2, 400, (399,)), ((5, (399,), (("abel", 5),)),)),
    (WEEK, ((12, (0, 1, 7), (("abel", 425), ("bron", 440))), (13, (4,), (("bron", 1450),)))),
)


def lines(*told):
    return "\n".join(told)


class PlanTexts(unittest.TestCase):
    """Checks what read_plan refuses."""

    def refuses(self, *values):
        for value in values:
            with self.subTest(value=repr(value)[:200]), self.assertRaises(BadText) as caught:
                read_plan(value)
            self.assertIsInstance(caught.exception, SheetError)
            self.assertIsInstance(caught.exception, ValueError)

    def no_plan(self, error, value):
        with self.subTest(value=repr(value)[:200]), self.assertRaises(BadPlan) as caught:
            read_plan(value)
        self.assertEqual(repr(caught.exception.error), repr(error))
        self.assertIsInstance(caught.exception, SheetError)
        self.assertIsInstance(caught.exception, ValueError)


class TestThereAndBack(PlanTexts):

    def test_texts_of_plans(self):
        self.assertEqual(plan_text(((0, 1, ()), ())), "calendar 0 1")
        self.assertEqual(plan_text(((6, 400, ()), ())), "calendar 6 400")
        self.assertEqual(plan_text(((5, 10, (9,)), ())), "calendar 5 10 holidays 9")
        self.assertEqual(plan_text(((5, 11, (0, 4, 10)), ())), "calendar 5 11 holidays 0,4,10")
        self.assertEqual(plan_text(WORDY), lines(
            "calendar 0 8 holidays 0,7",
            "1 never also 0: daily 0:00, not 0:01, mo 0:59, also 1:00, never 23:59, hol 24:00, calendar 47:59",
            "10 hol: holidays 47:59", "9998 daily: a 0:05", "9999 tu+we+th: abcdefghijkl 0:05, z 1:05"))

    def test_plans_there_and_back(self):
        for plan in PLANS:
            self.assertIsNone(plan_error(plan))
            self.assertEqual(repr(read_plan(plan_text(plan))), repr(plan))

    def test_lines_of_the_text(self):
        for plan in PLANS:
            self.assertEqual(len(plan_text(plan).split("\n")), 1 + len(plan[1]))
            self.assertFalse(plan_text(plan).endswith("\n"))

    def test_days_told_by_any_expression(self):
        calendar = (5, 9, (2, 8))
        for days in tuples_of(range(9))[1::23]:
            plan = (calendar, ((3, days, (("abel", 5),)), (7, days[:1], (("bron", 6),))))
            for text in texts_with(calendar, days):
                told = lines("calendar 5 9 holidays 2,8", f"3 {text}: abel 0:05", f"7 never also {days[0]}: bron 0:06")
                self.assertEqual(read_plan(told), plan)

    def test_days_of_the_trains_of_a_plan_told_by_any_expression(self):
        for plan in (BUSY, WORDY):
            for place, (_, days, _) in enumerate(plan[1]):
                text_lines = plan_text(plan).split("\n")
                number, _, rest = text_lines[place + 1].partition(" ")
                calls = rest.partition(": ")[2]
                for text in texts_with(plan[0], days)[::5]:
                    text_lines[place + 1] = f"{number} {text}: {calls}"
                    self.assertEqual(read_plan("\n".join(text_lines)), plan)


class TestBadTexts(PlanTexts):

    def test_values_of_any_kind(self):
        self.refuses(*ODD)
        self.refuses(SMALL, ["calendar 0 1"], ("calendar 0 1",), {"calendar": 1}, b"calendar 0 1", 0, [])

    def test_the_first_line(self):
        self.refuses("", "\n", " ", "calendar", "calendar ", "calendar 3", "calendar 3 ", "calendar  3 10",
                     "calendar 3  10", " calendar 3 10", "calendar 3 10 ", "calendar 3 10\n", "\ncalendar 3 10",
                     "Calendar 3 10", "calender 3 10", "calendar 3 10 4", "calendar 3,10", "calendar 3 10,",
                     "calendar\n3 10", "days 3 10", "3 10", "cal 3 10", "calendar 3 10\ncalendar 3 10",
                     "calendar 3 10\n\n", "7 su: abel 0:00", "calendar 3 10 daily", "holidays 3 10", "xcalendar 3 10",
                     "calendarx 3 10")

    def test_numbers_of_the_first_line(self):
        self.refuses("calendar 7 10", "calendar -1 10", "calendar 03 10", "calendar 3 010", "calendar 3 0",
                     "calendar 3 401", "calendar 3 00", "calendar 00 1", "calendar +3 10", "calendar 3 -10",
                     "calendar a 10", "calendar 3 a", "calendar 10 10", "calendar 3 1000", "calendar 3 1_0",
                     "calendar 3 10.0")
        for figures in (str(GREAT), "1" * 5000, "0" * 19000):
            self.refuses("calendar 3 " + figures, f"calendar {figures} 10", "calendar 3 10 holidays " + figures)

    def test_holidays(self):
        self.refuses("calendar 3 10 holidays", "calendar 3 10 holidays ", "calendar 3 10 holidays  4",
                     "calendar 3 10  holidays 4", "calendar 3 10 holiday 4", "calendar 3 10 Holidays 4",
                     "calendar 3 10 holidays 4 ", "calendar 3 10 holidays 4,", "calendar 3 10 holidays ,4",
                     "calendar 3 10 holidays 4, 5", "calendar 3 10 holidays 4 5", "calendar 3 10 holidays 4,,5",
                     "calendar 3 10 holidays 04", "calendar 3 10 holidays 10", "calendar 3 10 holidays 9,10",
                     "calendar 3 10 holidays 5,4", "calendar 3 10 holidays 4,4", "calendar 3 10 holidays -1",
                     "calendar 3 10 holidays none", "calendar 3 10 holidays 4 holidays 5",
                     "calendar 3 10 holidays 1000", "calendar 3 400 holidays 400", "calendar 3 10 not 4",
                     "calendar holidays 4 3 10", "calendar 3 holidays 4", "calendar 3 0 holidays 0")
        self.assertEqual(read_plan("calendar 3 400 holidays 399"), ((3, 400, (399,)), ()))

    def test_lines_of_trains(self):
        for line in ("7 su: abel 0:00", "7 daily: abel 0:00, bron 0:05", "9999 hol: abel 0:00"):
            self.assertEqual(len(read_plan(lines("calendar 3 10 holidays 4", line))[1]), 1)
        for line in ("", " ", "7", "7 su", "7 su:", "7 su: ", "7 su:abel 0:00", "7 su : abel 0:00", "7 su abel 0:00",
                     "7 : abel 0:00", "7: abel 0:00", "7  su: abel 0:00", " 7 su: abel 0:00", "su: abel 0:00",
                     "su 7: abel 0:00", "7 su:  abel 0:00", "7 su: abel 0:00 ", "7 su: abel 0:00,", "7 su: abel 0:00, ",
                     "7 su: abel  0:00", "7 su: abel0:00", "7 su: abel", "7 su: 0:00", "7 su: abel 0:00,bron 0:05",
                     "7 su: abel 0:00,  bron 0:05", "7 su: abel 0:00 , bron 0:05", "7 su: abel 0:00; bron 0:05",
                     "7 su: , abel 0:00", "7 su: abel 0:00, bron", "7 su: abel 0:00: bron 0:05", "7 su:: abel 0:00",
                     "7 su: abel 0:00 0:05", "7 su: abel bron 0:00", "7,su: abel 0:00", "7 su; abel 0:00",
                     "calendar 3 10", "7 su: abel 0:00\r", "7\tsu: abel 0:00"):
            self.refuses(lines("calendar 3 10 holidays 4", line))
            self.refuses(lines("calendar 3 10 holidays 4", "5 su: abel 0:00", line))
            self.refuses(lines("calendar 3 10 holidays 4", line, "9 su: abel 0:00"))

    def test_numbers_of_trains(self):
        for figures in ("0", "00", "07", "10000", "99999", "-7", "+7", "a", "7a", "7.0", "1e3", "0007", str(GREAT),
                        "1" * 5000, "0" * 19000, "\u0667"):
            self.refuses(lines("calendar 3 10", figures + " su: abel 0:00"))

    def test_days_of_trains(self):
        for text in ("mo", "su+th", "Su", "th also 0", "th not 1", "th not 07", "never also 10", "never also", "always",
                     "never also " + str(GREAT), "tu+we+th+fr+sa+su+hol", "su ", ""):
            self.refuses(lines("calendar 3 10 holidays 4", f"7 {text}: abel 0:00"))

    def test_names_of_stations(self):
        for name in ("", "A", "Abel", "abelabelabela", "ab-el", "ab1", "1", "ab.el", "a" * 13, "x" * 19000, "ab_el",
                     "\u00e4"):
            self.refuses(lines("calendar 3 10", f"7 su: {name} 0:00"))
        self.assertEqual(read_plan("calendar 3 10\n7 su: abelabelabel 0:00")[1][0][2], (("abelabelabel", 0),))

    def test_minutes_of_calls(self):
        for clock in ("0:0", "00:00", "07:05", "48:00", "7:60", "7:5", "7:005", "-1:00", "7", ":05", "7:", "705",
                      "7.05", "7:05:00", str(GREAT) + ":00", "7:" + "0" * 5000):
            self.refuses(lines("calendar 3 10", f"7 su: abel {clock}"))

    def test_texts_with_a_sign_changed(self):
        call = "[a-z]{1,12} [0-9]+:[0-5][0-9]"
        pattern = re.compile(f"(0|[1-9][0-9]*) ([^:]*): ({call}(?:, {call})*)")
        for line in ("12 th also 1: abel 7:05, bron 47:20", "9 never also 0: not 0:00",
                     "199 daily not 9: b 9:59, a 10:00"):
            for other in changed(line, SIGNS):
                told = self.read_or_none(lines("calendar 3 10 holidays 4", other))
                found = pattern.fullmatch(other)
                right = found is not None and self.is_right(*found.groups())
                self.assertEqual(told is not None, right, other)

    def is_right(self, figures, days, calls):
        if not 1 <= int(figures) <= 9999:
            return False
        for call in calls.split(", "):
            hours = call.split(" ")[1].split(":")[0]
            if int(hours) > 47 or str(int(hours)) != hours:
                return False
        try:
            read_days(WEEK, days)
        except BadText:
            return False
        return True

    def read_or_none(self, value):
        """What read_plan tells, be it a plan or what is no plan; None for BadText."""
        try:
            return read_plan(value)
        except BadPlan as bad:
            return bad.error
        except BadText:
            return None

    def test_first_lines_with_a_sign_changed(self):
        day = "(?:0|[1-9][0-9]*)"
        length = "[1-9][0-9]?|[1-3][0-9][0-9]|400"
        pattern = re.compile(f"calendar ([0-6]) ({length})(?: holidays ({day}(?:,{day})*))?")
        for line in ("calendar 3 10 holidays 4", "calendar 0 1", "calendar 6 400 holidays 0,9,10,399", "calendar 5 40"):
            for other in changed(line, "0123456789 ,:+-acdehilnorsyz\nA"):
                found = pattern.fullmatch(other)
                right = None
                if found:
                    days = [int(day) for day in found[3].split(",")] if found[3] else []
                    if days == sorted(set(days)) and all(day < int(found[2]) for day in days):
                        right = ((int(found[1]), int(found[2]), tuple(days)), ())
                self.assertEqual(self.read_or_none(other), right, other)


class TestBadPlans(PlanTexts):

    def test_order_of_trains(self):
        one, two = "7 su: abel 0:00", "8 su: abel 0:00"
        self.no_plan(("number", 1), lines("calendar 3 10", two, one))
        self.no_plan(("number", 1), lines("calendar 3 10", one, one))
        self.no_plan(("number", 2), lines("calendar 3 10", one, two, two))

    def test_too_many_trains(self):
        trains = [f"{number} su: abel 0:00" for number in range(1, 1000)]
        self.assertEqual(len(read_plan(lines("calendar 3 10", *trains[:24]))[1]), 24)
        self.no_plan("trains", lines("calendar 3 10", *trains[:25]))
        self.no_plan("trains", lines("calendar 3 10", *trains))
        self.no_plan("trains", lines("calendar 3 10", *trains[:1] * 25))

    def test_trains_without_days(self):
        self.no_plan(("days", 0), lines("calendar 3 10", "7 never: abel 0:00"))
        self.no_plan(("days", 1), lines("calendar 3 10", "7 su: abel 0:00", "8 th not 0,7: abel 0:00"))
        self.no_plan(("days", 0), lines("calendar 0 1", "7 daily not 0: abel 0:00"))

    def test_minutes_that_do_not_rise(self):
        self.no_plan(("rise", 0, 1), lines("calendar 3 10", "7 su: abel 0:05, bron 0:05"))
        self.no_plan(("rise", 0, 2), lines("calendar 3 10", "7 su: abel 0:05, bron 23:05, cors 1:05"))
        self.no_plan(("rise", 1, 1), lines("calendar 3 10", "7 su: abel 0:05", "8 su: abel 47:59, abel 0:00"))

    def test_too_many_stations_and_calls(self):
        def called(many, names):
            return ", ".join(f"{names[place % len(names)]} {place // 60}:{place % 60:02}" for place in range(many))
        self.no_plan("stations", lines("calendar 3 10", "7 su: " + called(17, NAMES)))
        self.assertEqual(len(read_plan(lines("calendar 3 10", "7 su: " + called(16, NAMES)))[1][0][2]), 16)
        self.no_plan("many", lines("calendar 3 10", "7 su: " + called(201, NAMES[:16])))
        self.no_plan("many", lines("calendar 3 10", "7 su: " + called(100, "ab"), "8 su: " + called(101, "ab")))
        self.assertEqual(len(read_plan(lines("calendar 3 10", "7 su: " + called(200, "ab")))[1][0][2]), 200)
        self.no_plan("stations", lines("calendar 3 10", "7 su: " + called(201, NAMES)))

    def test_several_things_at_once(self):
        self.no_plan(("number", 1), lines("calendar 3 10", "8 su: abel 0:00", "7 never: abel 0:05, bron 0:05"))
        self.no_plan(("days", 0), lines("calendar 3 10", "8 never: abel 0:05, bron 0:05", "7 su: abel 0:00"))
        self.no_plan(("rise", 0, 1), lines("calendar 3 10", "8 su: abel 0:05, bron 0:05", "7 su: abel 0:00"))

    def test_a_bad_text_is_told_ahead_of_a_bad_plan(self):
        never = "7 never: abel 0:00"
        for line in ("", "8 mo", "8 su: abel 0:60", "0 su: abel 0:00", "8 th also 0: abel 0:00", "8 su: Abel 0:00"):
            self.refuses(lines("calendar 3 10", never, line), lines("calendar 3 10", line, never))
            self.refuses(lines("calendar 3 10", *[never] * 30, line))
        self.refuses("calendar 7 10\n" + never, "calendar 3 10\n" + never + "\n",
                     "calendar 3 10\n7 never: abel 0:05, bron 0:5")


class TestConventions(PlanTexts):

    def test_functions_of_plan_texts(self):
        for plan in PLANS:
            check_conventions(self, plan_text, plan=plan)
            check_conventions(self, read_plan, value=plan_text(plan))
        for value in ODD + (SMALL, "calendar 3 10\n", "calendar 3 10\n7 never: abel 0:00", "calendar 7 10"):
            check_conventions(self, read_plan, value=value)


if __name__ == "__main__":
    unittest.main()
