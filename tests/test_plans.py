"""Part A: what is a plan, and what plan_error tells of anything else."""

import unittest

from risingsheets.plans import plan_error
from tests.values import GREAT, ODD, fresh, put

WEEK = (3, 30, (4, 11))
ONE = (1, (0, 1), (("abel", 425), ("bron", 440)))
FOUR = (4, (1, 29), (("bron", 430), ("cors", 450), ("bron", 1470)))
SMALL = (WEEK, (ONE, FOUR))

LETTERS = "abcdefghijklmnopqrstuvwxyz"
NAMES = tuple(LETTERS[place] * 12 for place in range(17))


def with_calls(calls):
    return (WEEK, ((1, (0,), calls),))


def with_numbers(*numbers):
    return (WEEK, tuple((number, (0,), (("abel", 5),)) for number in numbers))


def with_calendar(first, length, holidays):
    return ((first, length, holidays), ())


def with_days(length, days):
    return ((0, length, ()), ((1, days, (("abel", 5),)),))


def counted_calls(*counts):
    """A plan whose trains have so many calls each, all at one station."""
    return (WEEK, tuple((place + 1, (0,), tuple(("abel", minute) for minute in range(count)))
                        for place, count in enumerate(counts)))


def greatest():
    """A plan at all bounds at once: 24 trains, 16 names of 12 letters, 200 calls, the greatest numbers and minutes."""
    trains = []
    for place in range(24):
        many = 9 if place < 8 else 8
        calls = tuple((NAMES[(place + further) % 16], 2879 - many + 1 + further) for further in range(many))
        trains.append((9999 - 23 + place, tuple(range(400)), calls))
    return ((6, 400, tuple(range(400))), tuple(trains))


class PlanErrors(unittest.TestCase):
    """Checks many values at once."""

    def tells(self, expected, *values):
        for value in values:
            with self.subTest(value=repr(value)[:200]):
                before = repr(value)
                self.assertEqual(repr(plan_error(value)), repr(expected))
                self.assertEqual(repr(plan_error(value=fresh(value))), repr(expected))
                self.assertEqual(repr(value), before)


class TestAtoms(PlanErrors):

    def test_names(self):
        for name in ("a", "z", "abel", LETTERS[:12], LETTERS[-12:], LETTERS[7:19]):
            self.tells(None, with_calls(((name, 5),)))
        for name in ("", LETTERS[:13], "A", "Z", "abeL", "a b", " abel", "abel ", "a\n", "abel\n", "a1", "0", "a-b",
                     "a.b", "a_b", "`", "{", "@", "[", "abelA", ",", ":", "x" * 20000):
            self.tells(("call", 0, 0), with_calls(((name, 5),)))
            self.tells(("call", 0, 1), with_calls((("abel", 4), (name, 5))))

    def test_letters_beyond_ascii_are_none(self):
        self.tells(("call", 0, 0), with_calls((("\u00e4bel", 5),)), with_calls((("\u0430", 5),)))

    def test_numbers(self):
        self.tells(None, with_numbers(1), with_numbers(2), with_numbers(9998), with_numbers(9999),
                   with_numbers(1, 9999))
        self.tells(("number", 0), with_numbers(0), with_numbers(-1), with_numbers(10000), with_numbers(GREAT),
                   with_numbers(-GREAT), with_numbers(True), with_numbers("1"), with_numbers(None))
        self.tells(("number", 1), with_numbers(1, 10000), with_numbers(1, 0), with_numbers(9999, 10000),
                   with_numbers(1, GREAT), with_numbers(1, False), with_numbers(1, "2"))

    def test_minutes(self):
        self.tells(None, with_calls((("abel", 0),)), with_calls((("abel", 1439),)), with_calls((("abel", 1440),)),
                   with_calls((("abel", 2879),)), with_calls((("abel", 0), ("abel", 2879))))
        for minute in (-1, 2880, GREAT, -GREAT, False, True, "5", None, (5,)):
            self.tells(("call", 0, 0), with_calls((("abel", minute),)))
        self.tells(("call", 0, 1), with_calls((("abel", 2879), ("bron", 2880))),
                   with_calls((("abel", 0), ("b", GREAT))))


class TestCalendars(PlanErrors):

    def test_first(self):
        for first in range(7):
            self.tells(None, with_calendar(first, 30, ()))
        for first in (-1, 7, GREAT, -GREAT, True, False, "0", None, (0,)):
            self.tells("calendar", with_calendar(first, 30, ()))

    def test_length(self):
        for length in (1, 2, 7, 399, 400):
            self.tells(None, with_calendar(0, length, ()))
        for length in (0, -1, 401, GREAT, -GREAT, True, "7", None, (7,)):
            self.tells("calendar", with_calendar(0, length, ()))

    def test_holidays(self):
        for holidays in ((), (0,), (29,), (0, 29), (28, 29), tuple(range(30))):
            self.tells(None, with_calendar(0, 30, holidays))
        self.tells(None, with_calendar(0, 1, (0,)), with_calendar(6, 400, (399,)),
                   with_calendar(6, 400, tuple(range(400))))
        for holidays in ((30,), (0, 30), (-1,), (-1, 5), (5, 5), (5, 4), (3, 9, 9), (3, 9, 8), (1, 5, 3, 7), (GREAT,),
                         [], [5], (True,), (False,), (0, True), ("5",), (None,), (5, None), ((5,),), None, 5, "5", {}):
            self.tells("calendar", with_calendar(0, 30, holidays))
        self.tells("calendar", with_calendar(0, 1, (1,)), with_calendar(6, 400, (400,)))

    def test_other_forms(self):
        for calendar in ((), (3, 30), (3, 30, (), ()), [3, 30, ()], {}, {3: 30}, None, 3, "330", ((3, 30, ()),)):
            self.tells("calendar", (calendar, ()), (calendar, (ONE, FOUR)), (calendar, None))


class TestTrains(PlanErrors):

    def test_days(self):
        for days in ((0,), (29,), (0, 29), (5, 6, 7), tuple(range(30))):
            self.tells(None, with_days(30, days))
        for days in ((), (30,), (0, 30), (-1,), (-1, 0), (5, 5), (5, 4), (0, 5, 5), (0, 6, 5), (1, 5, 3, 7), (GREAT,),
                     [0], [], (True,), (False,), (0, True), ("0",), (None,), (0, "1"), ((0,),), None, 0, "0", {0: 0}):
            self.tells(("days", 0), with_days(30, days))
        self.tells(None, with_days(1, (0,)), with_days(400, (399,)))
        self.tells(("days", 0), with_days(1, (1,)), with_days(400, (400,)))

    def test_holidays_are_days_like_others(self):
        self.tells(None, (WEEK, ((1, (4, 11), (("abel", 5),)),)))

    def test_rising_minutes(self):
        self.tells(None, with_calls((("abel", 5), ("bron", 6), ("cors", 7))))
        self.tells(("rise", 0, 1), with_calls((("abel", 5), ("bron", 5))), with_calls((("abel", 5), ("bron", 4))),
                   with_calls((("abel", 5), ("bron", 5), ("cors", 2))), with_calls((("abel", 2879), ("bron", 0))),
                   with_calls((("abel", 5), ("bron", 4), ("cors", 3))))
        self.tells(("rise", 0, 2), with_calls((("abel", 5), ("bron", 6), ("cors", 6))),
                   with_calls((("abel", 5), ("bron", 9), ("cors", 7))))

    def test_a_train_calls_twice_at_a_station(self):
        self.tells(None, with_calls((("abel", 5), ("bron", 6), ("abel", 7))), with_calls((("abel", 5), ("abel", 6))))
        self.tells(("rise", 0, 1), with_calls((("abel", 5), ("abel", 5))))

    def test_one_station_at_one_minute_by_several_trains(self):
        self.tells(None, (WEEK, ((1, (0,), (("abel", 5),)), (2, (0,), (("abel", 5),)))))


class TestBoundsOfPlans(PlanErrors):

    def test_trains(self):
        self.tells(None, (WEEK, ()), with_numbers(*range(1, 25)))
        self.tells("trains", with_numbers(*range(1, 26)), (WEEK, (None,) * 25), with_numbers(*[1] * 25))
        self.tells(("train", 0), (WEEK, (None,) * 24))

    def test_ascending_numbers(self):
        self.tells(None, with_numbers(1, 2, 3), with_numbers(5, 9, 9999))
        self.tells(("number", 1), with_numbers(5, 5), with_numbers(5, 4), with_numbers(5, 5, 4), with_numbers(5, 4, 9))
        self.tells(("number", 2), with_numbers(1, 5, 5), with_numbers(1, 5, 4), with_numbers(3, 5, 4, 2))

    def test_stations(self):
        for many, expected in ((1, None), (15, None), (16, None), (17, "stations")):
            calls = tuple((NAMES[place], place) for place in range(many))
            self.tells(expected, with_calls(calls))
            self.tells(expected, (WEEK, tuple((place + 1, (0,), (call,)) for place, call in enumerate(calls))))

    def test_names_count_once(self):
        calls = tuple((NAMES[place % 16], place) for place in range(40))
        self.tells(None, with_calls(calls), (WEEK, ((1, (0,), calls), (2, (0,), calls))))

    def test_calls(self):
        self.tells(None, counted_calls(199), counted_calls(200), counted_calls(100, 100), counted_calls(1, 199))
        self.tells("many", counted_calls(201), counted_calls(100, 101), counted_calls(101, 100), counted_calls(1, 200))
        self.tells("many", counted_calls(*[9] * 24), counted_calls(2880))

    def test_all_bounds_at_once(self):
        plan = greatest()
        calendar, trains = plan
        calls = [call for train in trains for call in train[2]]
        self.assertEqual((len(trains), len(calls), len({name for name, _ in calls})), (24, 200, 16))
        self.tells(None, plan)
        grown = trains[-1][:2] + ((("abel", 5),) + trains[-1][2],)
        self.tells("stations", (calendar, trains[:-1] + (grown,)))
        grown = trains[-1][:2] + (((NAMES[0], 5),) + trains[-1][2],)
        self.tells("many", (calendar, trains[:-1] + (grown,)))
        self.tells("trains", (calendar, ((1, (0,), ((NAMES[0], 5),)),) + trains))


# What stands in each place of SMALL, and what is told if it is wrong, in the order in which it is told.
PLACES = (
    ((), "form"), ((0,), "calendar"), ((0, 0), "calendar"), ((0, 1), "calendar"), ((0, 2), "calendar"),
    ((0, 2, 0), "calendar"), ((0, 2, 1), "calendar"), ((1,), "trains"),
    ((1, 0), ("train", 0)), ((1, 0, 0), ("number", 0)), ((1, 0, 1), ("days", 0)), ((1, 0, 1, 0), ("days", 0)),
    ((1, 0, 1, 1), ("days", 0)), ((1, 0, 2), ("calls", 0)),
    ((1, 0, 2, 0), ("call", 0, 0)), ((1, 0, 2, 0, 0), ("call", 0, 0)), ((1, 0, 2, 0, 1), ("call", 0, 0)),
    ((1, 0, 2, 1), ("call", 0, 1)), ((1, 0, 2, 1, 0), ("call", 0, 1)), ((1, 0, 2, 1, 1), ("call", 0, 1)),
    ((1, 1), ("train", 1)), ((1, 1, 0), ("number", 1)), ((1, 1, 1), ("days", 1)), ((1, 1, 1, 0), ("days", 1)),
    ((1, 1, 1, 1), ("days", 1)), ((1, 1, 2), ("calls", 1)),
    ((1, 1, 2, 0), ("call", 1, 0)), ((1, 1, 2, 0, 0), ("call", 1, 0)), ((1, 1, 2, 0, 1), ("call", 1, 0)),
    ((1, 1, 2, 1), ("call", 1, 1)), ((1, 1, 2, 1, 0), ("call", 1, 1)), ((1, 1, 2, 1, 1), ("call", 1, 1)),
    ((1, 1, 2, 2), ("call", 1, 2)), ((1, 1, 2, 2, 0), ("call", 1, 2)), ((1, 1, 2, 2, 1), ("call", 1, 2)),
)

def told_of(path, expected, value):
    """What plan_error has to tell of SMALL with value in a place."""
    many = isinstance(value, tuple) and len(value) > 0
    if path == (1,) and many and len(value) <= 24:
        return ("train", 0)
    if expected[0] == "calls" and many:
        return ("call", expected[1], 0)
    if len(path) == 2 and path[0] == 1 and isinstance(value, tuple) and len(value) == 3:
        return ("number", path[1])
    return expected


class TestAnyValue(PlanErrors):

    def test_any_value_in_each_place(self):
        for path, expected in PLACES:
            for value in ODD:
                self.tells(told_of(path, expected, value), put(SMALL, path, value))

    def test_lists_for_tuples(self):
        for path, expected in PLACES:
            held = SMALL
            for at in path:
                held = held[at]
            if isinstance(held, tuple):
                self.tells(expected, put(SMALL, path, list(held)), put(SMALL, path, {0: held}))

    def test_one_item_more_or_fewer(self):
        self.tells("form", SMALL + (1,), SMALL + ((),), SMALL[:1], (), SMALL[::-1] + (1,))
        self.tells("calendar", put(SMALL, (0,), WEEK + (1,)), put(SMALL, (0,), WEEK[:2]), put(SMALL, (0,), ()),
                   SMALL[::-1])
        for place, train in enumerate(SMALL[1]):
            for wrong in (train + (1,), train + ((),), train[:2], train[:1], ()):
                self.tells(("train", place), put(SMALL, (1, place), wrong))
            for further, call in enumerate(train[2]):
                for wrong in (call + (1,), call[:1], (), call[::-1], (call,), call + call):
                    self.tells(("call", place, further), put(SMALL, (1, place, 2, further), wrong))

    def test_bools_are_no_integers(self):
        plan = ((1, 1, (0,)), ((1, (0,), (("abel", 0), ("bron", 1))),))
        self.tells(None, plan)
        for path, expected in (((0, 0), "calendar"), ((0, 1), "calendar"), ((0, 2, 0), "calendar"),
                               ((1, 0, 0), ("number", 0)), ((1, 0, 1, 0), ("days", 0)),
                               ((1, 0, 2, 0, 1), ("call", 0, 0)), ((1, 0, 2, 1, 1), ("call", 0, 1))):
            self.tells(expected, put(plan, path, True), put(plan, path, False))

    def test_values_that_are_no_pair(self):
        for value in ODD + (0, 1, "form", [WEEK, ()], (WEEK,), (WEEK, (), ()), {"calendar": WEEK}):
            self.tells("form", value)


class TestWhatIsToldFirst(PlanErrors):

    def test_two_wrong_things_at_once(self):
        for rank, (first, expected) in enumerate(PLACES):
            for second, _ in PLACES[rank + 1:]:
                if second[:len(first)] != first:
                    self.tells(expected, put(put(SMALL, second, None), first, None))

    def test_within_one_train(self):
        calls = (("abel", 9), ("bron", 5), None)
        self.tells(("train", 0), (WEEK, ((0, (), calls, ()),)))
        self.tells(("number", 0), (WEEK, ((0, (), calls),)))
        self.tells(("days", 0), (WEEK, ((1, (), calls),)), (WEEK, ((1, (), ()),)))
        self.tells(("call", 0, 2), (WEEK, ((1, (0,), calls),)))
        self.tells(("rise", 0, 1), (WEEK, ((1, (0,), calls[:2]),)))
        self.tells(("number", 1), (WEEK, (ONE, (1, (), ()))))

    def test_among_several_trains(self):
        late = (7, (0,), (("abel", 9), ("bron", 9)))
        self.tells(("rise", 0, 1), (WEEK, (late, None)), (WEEK, (late, late)), (WEEK, (late, (0, (), ()))))
        self.tells(("number", 1), (WEEK, (FOUR, ONE, None)), (WEEK, (FOUR, FOUR, late, ONE)))
        self.tells(("rise", 2, 1), (WEEK, (ONE, FOUR, late, late)))
        self.tells(("days", 1), (WEEK, (ONE, (4, (), ()), ())))
        self.tells(("calls", 2), (WEEK, (ONE, FOUR, (5, (0,), ()), None)))

    def test_the_calendar_beside_the_trains(self):
        self.tells("calendar", ((7, 30, ()), (None,)), ((0, 0, ()), None), ((0, 30, (30,)), (ONE, ONE)))
        self.tells("calendar", ((0, 30, []), (None,) * 25), ((0, 401, ()), ((1, (400,), ()),)))
        self.tells("trains", (WEEK, [None]), (WEEK, None), (WEEK, {}), (WEEK, "trains"))

    def test_trains_beside_stations_and_calls(self):
        many = tuple((NAMES[minute % 17], minute) for minute in range(201))
        self.tells(("train", 1), (WEEK, ((1, (0,), many), None)))
        self.tells(("rise", 0, 201), with_calls(many + (("abel", 3),)))
        self.tells(("call", 0, 201), with_calls(many + (("abel", -3),)))

    def test_stations_beside_calls(self):
        self.tells("stations", with_calls(tuple((NAMES[minute % 17], minute) for minute in range(201))))
        self.tells("many", with_calls(tuple((NAMES[minute % 16], minute) for minute in range(201))))
        self.tells("stations", with_calls(tuple((NAMES[minute % 17], minute) for minute in range(200))))


if __name__ == "__main__":
    unittest.main()
