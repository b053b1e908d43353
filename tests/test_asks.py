"""Part J: which trains go from one station to another, asked of a printed text."""

import unittest
from itertools import product

from risingsheets.asks import following_train, trains_from
from risingsheets.benches import Bench
from risingsheets.errors import BadText, NoStation, SheetError, Unfit
from risingsheets.printing import edition_text
from risingsheets.sheets import told_sheet
from tests.drawn import CALENDAR, cuts_of_plan, plan_of
from tests.editions import EDITIONS, drawn_edition, singles
from tests.great import GREAT_PLANS, in_time
from tests.reference import lets_none_stand, sets_of_cuts
from tests.values import GREAT, ODD, check_conventions, plain

# Twice at start, twice at goal, there and back, past midnight, on unlike days.
TOWN = (CALENDAR, (
    (1, (0, 1), (("abel", 425), ("bron", 440))),
    (4, (1,), (("abel", 500), ("bron", 520), ("cors", 530))),
    (5, (1, 29), (("abel", 500), ("bron", 510), ("abel", 515), ("bron", 525), ("bron", 535))),
    (6, (0, 1), (("abel", 500), ("cors", 1450))),
    (7, (2,), (("bron", 5), ("abel", 2000), ("bron", 2879))),
    (8, (1,), (("abel", 425), ("bron", 435))),
))


def printed(plan, seed=0):
    """The text of an edition of a plan with all cuts."""
    sheet = told_sheet(plan, cuts_of_plan(plan))
    return edition_text(drawn_edition(seed, sheet, singles(sheet)))


TEXT = printed(TOWN)


def trains_with(plan, start, goal, day):
    """What trains_from has to tell, by [J1] and [J2]."""
    found = []
    for number, days, calls in plan[1]:
        for place, further in product(range(len(calls)), repeat=2):
            between = [name for name, _ in calls[place + 1:further]]
            if day in days and place < further and (calls[place][0], calls[further][0]) == (start, goal):
                if goal not in between:
                    found.append((calls[place][1], calls[further][1], number))
    return tuple(sorted(found))


def ask(function, *arguments):
    """What a function tells, or the error that it raises with what it keeps."""
    try:
        return function(*arguments)
    except SheetError as error:
        return (type(error), vars(error))


class Asks(unittest.TestCase):

    def refuses(self, kind, given, *arguments):
        """Both functions refuse the arguments, following_train with any minute."""
        for function, more in ((trains_from, ()), (following_train, (0,)), (following_train, (10 ** 9,))):
            with self.subTest(arguments=repr(arguments)[:200]), self.assertRaises(kind) as caught:
                function(*arguments, *more)
            self.assertIs(type(caught.exception), kind)
            self.assertEqual(repr(vars(caught.exception)), repr(given))
            self.assertIsInstance(caught.exception, SheetError)
            self.assertIsInstance(caught.exception, ValueError)


class TestTrainsFrom(Asks):

    def test_town(self):
        self.assertEqual(trains_from(TEXT, "abel", "bron", 0), ((425, 440, 1),))
        self.assertEqual(trains_from(TEXT, "abel", "bron", 1),
                         ((425, 435, 8), (425, 440, 1), (500, 510, 5), (500, 520, 4), (515, 525, 5)))
        self.assertEqual(trains_from(TEXT, "bron", "abel", 1), ((510, 515, 5),))
        self.assertEqual(trains_from(TEXT, "abel", "cors", 1), ((500, 530, 4), (500, 1450, 6)))
        self.assertEqual(trains_from(TEXT, "cors", "abel", 1), ())

    def test_past_midnight(self):
        self.assertEqual(trains_from(TEXT, "abel", "bron", 2), ((2000, 2879, 7),))
        self.assertEqual(trains_from(TEXT, "abel", "bron", 3), ())
        self.assertEqual(trains_from(TEXT, "bron", "abel", 2), ((5, 2000, 7),))

    def test_days_beyond_the_calendar(self):
        self.assertEqual(trains_from(TEXT, "abel", "bron", 29), ((500, 510, 5), (515, 525, 5)))
        for day in (30, 31, 400, -1, -30, GREAT, -GREAT):
            self.assertEqual(trains_from(TEXT, "abel", "bron", day), ())

    def test_drawn_editions(self):
        asked = 0
        for edition in EDITIONS[::6]:
            text = edition_text(edition)
            plan = edition[0][0]
            names = sorted({name for train in plan[1] for name, _ in train[2]})[:5]
            for start, goal in product(names, repeat=2):
                for day in (0, 1, 7) if start != goal else ():
                    told = trains_from(text, start, goal, day)
                    self.assertEqual(told, trains_with(plan, start, goal, day))
                    self.assertTrue(plain(told))
                    asked += len(told) > 1
        self.assertGreater(asked, 40)


class TestFollowingTrain(Asks):

    def test_town(self):
        told = trains_from(TEXT, "abel", "bron", 1)
        for minute in list(range(420, 520)) + [0, 2879, 2880, GREAT]:
            wanted = next((each for each in told if each[0] >= minute), None)
            self.assertEqual(following_train(TEXT, "abel", "bron", 1, minute), wanted)
        self.assertEqual(following_train(TEXT, "abel", "bron", 1, 425), (425, 435, 8))
        self.assertEqual(following_train(TEXT, "abel", "bron", 1, 426), (500, 510, 5))
        self.assertIsNone(following_train(TEXT, "abel", "bron", 1, 516))
        for day in (3, 30, -1, GREAT):
            self.assertIsNone(following_train(TEXT, "abel", "bron", day, 0))

    def test_drawn_editions(self):
        for edition in EDITIONS[::20]:
            text = edition_text(edition)
            names = sorted({name for train in edition[0][0][1] for name, _ in train[2]})[:3]
            for start, goal in product(names, repeat=2):
                for minute in range(0, 200, 23) if start != goal else ():
                    told = [each for each in trains_from(text, start, goal, 0) if each[0] >= minute]
                    self.assertEqual(following_train(text, start, goal, 0, minute), told[0] if told else None)


class TestErrors(Asks):

    def test_no_texts(self):
        for value in ODD + (TEXT + "\n", TEXT[1:], TEXT.replace("7:05", "7:5"), TOWN, TEXT.encode("ascii"),
                            "calendar 3 30"):
            self.refuses(BadText, {}, value, "abel", "bron", 1)
            self.refuses(BadText, {}, value, "dorn", "dorn", 1)
            self.refuses(BadText, {}, value, "abel", "abel", 1)

    def test_no_stations(self):
        for name in ("dorn", "a", "abcdefghijkl", "abe", "train"):
            self.refuses(NoStation, {"given": name}, TEXT, name, "bron", 1)
            self.refuses(NoStation, {"given": name}, TEXT, "abel", name, 1)
            self.refuses(NoStation, {"given": name}, TEXT, name, name, 1)
            self.refuses(NoStation, {"given": name}, TEXT, name, "zell", -1)
        self.refuses(NoStation, {"given": "abel"}, "risingsheets 3 1\ncalendar 0 7", "abel", "bron", 0)

    def test_one_station_for_both(self):
        for name in ("abel", "bron", "cors"):
            for day in (0, 1, 30, -1):
                self.refuses(Unfit, {}, TEXT, name, name, day)


class TestPlanAlone(Asks):

    def test_all_prints_of_one_plan(self):
        asks = [(start, goal, day) for start in ("abel", "bron", "cors", "dorn") for goal in ("abel", "bron", "cors")
                for day in (0, 1, 2, 29, 30)]
        told = [ask(trains_from, TEXT, *each) for each in asks]
        texts = {TEXT}
        for seed, more in enumerate(sets_of_cuts(cuts_of_plan(TOWN), 1, 1)):
            cuts = tuple(cut for cut in cuts_of_plan(TOWN) if cut not in more)
            if lets_none_stand(TOWN, cuts):
                sheet = told_sheet(TOWN, cuts)
                text = edition_text(drawn_edition(seed, sheet, singles(sheet)))
                texts.add(text)
                self.assertEqual([ask(trains_from, text, *each) for each in asks], told)
        self.assertGreater(len(texts), 10)

    def test_gathered_or_not(self):
        plan = plan_of(*[(("abel", 20 * k), ("bron", 20 * k + 10)) for k in range(6)])
        sheet = told_sheet(plan, ())
        for gathering in (singles(sheet), ((1, 6, 20),), ((2, 3, 40),), ((1, 3, 20), (1, 3, 20))):
            text = edition_text(drawn_edition(1, sheet, gathering))
            self.assertEqual(trains_from(text, "abel", "bron", 0),
                             tuple((20 * k, 20 * k + 10, k + 1) for k in range(6)))
            self.assertEqual(following_train(text, "abel", "bron", 0, 41), (60, 70, 4))

    def test_the_sheet_of_a_bench_behind_edits(self):
        bench = Bench(TOWN, cuts_of_plan(TOWN))
        bench.drop(8)
        bench.add((9, (1,), (("abel", 600), ("bron", 610))))
        bench.change((1, (1,), (("abel", 430), ("bron", 441))))
        text = edition_text(drawn_edition(4, bench.sheet, singles(bench.sheet)))
        self.assertEqual(trains_from(text, "abel", "bron", 1),
                         ((430, 441, 1), (500, 510, 5), (500, 520, 4), (515, 525, 5), (600, 610, 9)))
        for start, goal, day in product(("abel", "bron", "cors"), ("abel", "bron", "cors"), range(3)):
            if start != goal:
                self.assertEqual(trains_from(text, start, goal, day), trains_with(bench.plan, start, goal, day))
        self.assertEqual(trains_from(text, "abel", "bron", 1), trains_from(printed(bench.plan), "abel", "bron", 1))
        bench.undo()
        text = edition_text(drawn_edition(5, bench.sheet, singles(bench.sheet)))
        self.assertEqual(following_train(text, "abel", "bron", 1, 0), (425, 440, 1))


class TestBounds(Asks):

    def test_great_texts(self):
        for name, plan in GREAT_PLANS.items():
            text = printed(plan)
            names = sorted({each for train in plan[1] for each, _ in train[2]})
            if len(names) > 1:
                with self.subTest(name=name), in_time(self, name):
                    self.assertEqual(trains_from(text, names[0], names[1], 0), trains_with(plan, names[0], names[1], 0))
                    following_train(text, names[1], names[0], 7, 600)


class TestConventions(Asks):

    def test_functions_of_asks(self):
        for text in (TEXT, TEXT[1:], None):
            for start, goal in (("abel", "bron"), ("abel", "dorn"), ("bron", "bron"), ("cors", "abel")):
                for day in (0, 1, -1, 99):
                    check_conventions(self, trains_from, text=text, start=start, goal=goal, day=day)
                    check_conventions(self, following_train, text=text, start=start, goal=goal, day=day, minute=501)
        for value in ODD:
            check_conventions(self, trains_from, text=value, start="abel", goal="bron", day=1)


if __name__ == "__main__":
    unittest.main()
