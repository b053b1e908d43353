"""Part K: plans turned, moved, put together and parted, and what holds of their cuts."""

import unittest
from itertools import product

from risingsheets.cutting import are_good, cost, least_cuts
from risingsheets.errors import NeedsMore, SheetError, Unfit
from risingsheets.joining import ahead_of, from_on, moved, only_stations, only_trains, together
from risingsheets.joining import turned_cuts, turned_plan
from risingsheets.plans import plan_error, stations_of
from risingsheets.rings import gaps_of, ring_of
from risingsheets.sheets import cells, sheet_error, told_sheet
from risingsheets.threads import cuts_error, thread
from tests.drawn import CALENDAR, NAMES, cuts_of_plan, plan_of, small_plans, some_cuts
from tests.great import GREAT_PLANS, in_time
from tests.reference import lets_none_stand
from tests.values import GREAT, check_conventions, plain

EMPTY = (CALENDAR, ())
PLAN = ((3, 60, ()), ((12, (0, 1), (("abel", 425), ("bron", 440))), (15, (0, 1), (("abel", 430), ("bron", 436)))))
PLANS = small_plans(60, 8) + [EMPTY, PLAN]
LETTERS = dict(zip("0123456789", "abcdefghij"))


def lettered(number):
    return "".join(LETTERS[figure] for figure in str(number))


def turned_with(plan):
    """What a plan is turned into by [K2], None if it can't be turned."""
    calls = [(name, minute, number) for number, _, told in plan[1] for name, minute in told]
    days = {train[1] for train in plan[1]}
    if len(plan[1]) > 16 or len(days) > 1 or len({call[:2] for call in calls}) < len(calls):
        return None
    told = []
    for name in sorted({name for name, _, _ in calls}):
        row = sorted((minute, lettered(number)) for other, minute, number in calls if other == name)
        told.append((len(told) + 1, *days, tuple((station, minute) for minute, station in row)))
    return (plan[0], tuple(told))


def turned_plans():
    """Small plans that can be turned, numbers of one to four figures among them."""
    told = [plan for plan in small_plans(150, 8) if turned_with(plan)]
    far = []
    for plan, factor in zip(told, (1, 10, 37, 300) * 20):
        far.append((plan[0], tuple((number * factor, days, calls) for number, days, calls in plan[1])))
    return told + far


def least_cost(plan, price=1):
    """The least cost of good cuts, None if it is above 3."""
    for most in range(4):
        try:
            return cost(least_cuts(plan, price, most), price)
        except NeedsMore:
            pass
    return None


def no_more(parts, whole):
    """Whether a cost, None if it is above 3, is no more than another one."""
    return whole is None or (parts is not None and parts <= whole)


class Joining(unittest.TestCase):

    def unfit(self, function, *arguments):
        with self.subTest(arguments=repr(arguments)[:200]), self.assertRaises(Unfit) as caught:
            function(*arguments)
        self.assertIsInstance(caught.exception, SheetError)
        self.assertIsInstance(caught.exception, ValueError)

    def tells(self, expected, function, *arguments):
        told = function(*arguments)
        self.assertEqual(repr(told), repr(expected))
        self.assertIsNone(plan_error(told))
        self.assertTrue(plain(told))


class TestTurned(Joining):

    def test_drawn_plans(self):
        for plan in PLANS + turned_plans():
            wanted = turned_with(plan)
            if wanted is None:
                self.unfit(turned_plan, plan)
                self.unfit(turned_cuts, plan, ())
            else:
                self.tells(wanted, turned_plan, plan)
                self.assertEqual(turned_cuts(plan, ()), ())
        self.assertGreater(len(turned_plans()), 80)

    def test_letters_of_numbers(self):
        numbers = (1, 9, 10, 12, 90, 100, 345, 678, 999, 1000, 9999)
        plan = (CALENDAR, tuple((number, (4, 5), (("abel", place),)) for place, number in enumerate(numbers)))
        names = ("b", "j", "ba", "bc", "ja", "baa", "def", "ghi", "jjj", "baaa", "jjjj")
        self.tells((CALENDAR, ((1, (4, 5), tuple((name, place) for place, name in enumerate(names))),)), turned_plan,
                   plan)
        self.assertEqual(turned_cuts(plan, tuple(("station", "abel", gap) for gap in (2, 5))),
                         (("train", 1, 2), ("train", 1, 5)))

    def test_stations_become_trains_in_the_order_of_their_names(self):
        plan = plan_of((("cole", 5), ("abel", 6), ("bron", 7), ("abel", 8)))
        self.tells((CALENDAR, ((1, (0,), (("b", 6), ("b", 8))), (2, (0,), (("b", 7),)), (3, (0,), (("b", 5),)))),
                   turned_plan, plan)
        self.assertEqual(turned_cuts(plan, cuts_of_plan(plan)),
                         (("station", "b", 1), ("station", "b", 2), ("station", "b", 3), ("train", 1, 1)))

    def test_cuts_are_told_in_order(self):
        plan = plan_of((("abel", 5), ("bron", 6)), (("abel", 7), ("bron", 8)), (("bron", 9),))
        cuts = (("station", "abel", 1), ("station", "bron", 2), ("train", 1, 1), ("train", 2, 1))
        self.assertEqual(turned_cuts(plan, cuts),
                         (("station", "b", 1), ("station", "c", 1), ("train", 1, 1), ("train", 2, 2)))
        # As numbers 2 is ahead of 10, as letters it is not.
        plan = (CALENDAR, tuple((number, (0,), (("abel", number), ("bron", 100 + number))) for number in (2, 10)))
        self.assertEqual(turned_cuts(plan, (("train", 2, 1), ("train", 10, 1))),
                         (("station", "ba", 1), ("station", "c", 1)))

    def test_plans_that_can_not_be_turned(self):
        twice = plan_of((("abel", 5), ("bron", 9)), (("abel", 5),))
        unlike = (CALENDAR, ((1, (0,), (("abel", 5),)), (2, (0, 1), (("abel", 6),))))
        many = tuple((number, (0,), (("abel", number),)) for number in range(1, 18))
        for plan in (twice, unlike, (CALENDAR, many),
                     (CALENDAR, ((1, (1,), (("abel", 5),)), (2, (2,), (("bron", 6),))))):
            self.unfit(turned_plan, plan)
            self.unfit(turned_cuts, plan, ())
            self.unfit(turned_cuts, plan, cuts_of_plan(plan))
        for plan in ((CALENDAR, many[:16]), plan_of((("abel", 5), ("bron", 9)), (("bron", 5),)), EMPTY):
            self.tells(turned_with(plan), turned_plan, plan)

    def test_no_trains(self):
        self.tells(EMPTY, turned_plan, EMPTY)
        self.assertEqual(turned_cuts(EMPTY, ()), ())

    def test_turned_twice(self):
        for plan in turned_plans():
            once = turned_plan(plan)
            twice = turned_plan(once)
            # The trains come in the order of their letters; the stations are told by letters now.
            names = sorted(lettered(number) for number, _, _ in plan[1])
            numbers = {lettered(number): number for number, _, _ in plan[1]}
            elder = {number: calls for number, _, calls in plan[1]}
            places = {name: lettered(place + 1) for place, name in enumerate(stations_of(plan))}
            self.assertEqual([number for number, _, _ in twice[1]], list(range(1, len(names) + 1)))
            for (_, _, calls), name in zip(twice[1], names):
                self.assertEqual(calls, tuple((places[station], minute) for station, minute in elder[numbers[name]]))

    def test_good_cuts_and_costs(self):
        for seed, plan in enumerate(turned_plans()):
            other = turned_plan(plan)
            for cuts in some_cuts(plan, seed):
                told = turned_cuts(plan, cuts)
                self.assertIsNone(cuts_error(other, told))
                self.assertEqual(len(told), len(cuts))
                self.assertIs(are_good(other, told), lets_none_stand(plan, cuts))
                self.assertEqual(cost(told, 1), cost(cuts, 1))
            self.assertEqual(sorted(turned_cuts(plan, cuts_of_plan(plan))), list(cuts_of_plan(other)))
            self.assertEqual(least_cost(plan), least_cost(other))

    def test_sheets_have_rows_for_columns(self):
        for seed, plan in enumerate(turned_plans()):
            numbers = {name: place + 1 for place, name in enumerate(stations_of(plan))}
            for cuts in some_cuts(plan, seed):
                if lets_none_stand(plan, cuts):
                    _, _, rows, columns = told_sheet(plan, cuts)
                    sheet = (turned_plan(plan), turned_cuts(plan, cuts),
                             tuple((lettered(number), first) for number, first in columns),
                             tuple((numbers[name], first) for name, first in rows))
                    self.assertIsNone(sheet_error(sheet))
                    self.assertEqual(cells(sheet), tuple(zip(*cells((plan, cuts, rows, columns)))))


class TestMoved(Joining):

    def test_minutes(self):
        for plan in PLANS:
            minutes = [minute for train in plan[1] for _, minute in train[2]]
            for by in (0, 1, 60, -1, 1440, -GREAT, GREAT, -min(minutes or [0]), 2879 - max(minutes or [0])):
                if all(0 <= minute + by <= 2879 for minute in minutes):
                    wanted = (plan[0], tuple((number, days, tuple((name, minute + by) for name, minute in calls))
                                             for number, days, calls in plan[1]))
                    self.tells(wanted, moved, plan, by)
                    self.tells(plan, moved, wanted, -by)
                else:
                    self.unfit(moved, plan, by)

    def test_the_least_and_the_greatest_minutes(self):
        plan = plan_of((("abel", 10), ("bron", 100)), (("bron", 20),))
        self.assertEqual(moved(plan, -10)[1][0][2], (("abel", 0), ("bron", 90)))
        self.assertEqual(moved(plan, 2779)[1][0][2], (("abel", 2789), ("bron", 2879)))
        self.assertEqual(moved(plan, 2779)[1][1][2], (("bron", 2799),))
        for by in (-11, 2780, -GREAT, GREAT, 10 ** 30):
            self.unfit(moved, plan, by)
            self.tells(EMPTY, moved, EMPTY, by)

    def test_the_same_cuts_rings_and_orders(self):
        for seed, plan in enumerate(PLANS):
            other = moved(plan, 60)
            self.assertEqual(cuts_of_plan(other), cuts_of_plan(plan))
            for cuts in some_cuts(plan, seed):
                ring = ring_of(plan, cuts)
                self.assertEqual(ring is None, lets_none_stand(other, cuts))
                if ring is None:
                    self.assertEqual(told_sheet(other, cuts)[2:], told_sheet(plan, cuts)[2:])
                else:
                    self.assertEqual(gaps_of(other, ring), gaps_of(plan, ring))
            self.assertEqual(least_cost(other), least_cost(plan))


class TestTogether(Joining):

    def test_in_any_order(self):
        one, two, three = ((number, (0,), (("abel", number),)) for number in (1, 2, 3))
        wanted = (CALENDAR, (one, two, three))
        for first, second in (((one,), (two, three)), ((two,), (one, three)), ((one, three), (two,)),
                              ((), (one, two, three))):
            self.tells(wanted, together, (CALENDAR, first), (CALENDAR, second))
            self.tells(wanted, together, (CALENDAR, second), (CALENDAR, first))
        self.tells(EMPTY, together, EMPTY, EMPTY)

    def test_calendars(self):
        train = ((1, (0,), (("abel", 5),)),)
        for calendar in ((4, 30, (4, 11)), (3, 31, (4, 11)), (3, 30, (4,)), (3, 30, ()), (3, 30, (4, 12))):
            for trains in ((), train):
                self.unfit(together, (calendar, trains), (CALENDAR, ()))
                self.unfit(together, (CALENDAR, ()), (calendar, trains))
        self.tells((CALENDAR, train), together, (CALENDAR, train), (CALENDAR, ()))

    def test_numbers_of_both(self):
        self.unfit(together, PLAN, PLAN)
        self.unfit(together, PLAN, (PLAN[0], PLAN[1][:1]))
        self.unfit(together, (PLAN[0], PLAN[1][1:]), PLAN)
        self.unfit(together, (PLAN[0], PLAN[1][1:]), (PLAN[0], ((15, (5,), (("zell", 1),)),)))

    def test_too_much(self):
        def trains(begin, end, many=1, name="abel"):
            return (CALENDAR, tuple((number, (0,), tuple((name, minute) for minute in range(many)))
                                    for number in range(begin, end)))
        self.assertEqual(len(together(trains(1, 13), trains(13, 25))[1]), 24)
        self.unfit(together, trains(1, 13), trains(13, 26))
        self.unfit(together, trains(1, 2), trains(2, 26))
        self.assertEqual(len(together(trains(1, 11, 10), trains(11, 21, 10))[1]), 20)
        self.unfit(together, trains(1, 11, 10), (CALENDAR, trains(11, 20, 10)[1] + trains(20, 21, 11)[1]))
        one = plan_of(tuple((name, place) for place, name in enumerate(NAMES[:9])))
        eight, nine = ((CALENDAR, ((2, (0,), tuple((name, place) for place, name in enumerate(names))),))
                       for names in (NAMES[8:], NAMES[9:] + ("zell",)))
        self.tells((CALENDAR, one[1] + eight[1]), together, one, eight)
        self.unfit(together, one, nine)

    def test_good_cuts_of_plans_without_common_stations(self):
        small = small_plans(24, 6)
        for seed, (plan, other) in enumerate(zip(small, small[1:])):
            other = (CALENDAR, tuple((number + 100, days, tuple(("x" + name, minute) for name, minute in calls))
                                     for number, days, calls in other[1]))
            both = together(plan, other)
            for cuts, more in product(some_cuts(plan, seed), some_cuts(other, seed)):
                told = tuple(sorted(cuts + more))
                self.assertIsNone(cuts_error(both, told))
                self.assertIs(are_good(both, told), are_good(plan, cuts) and are_good(other, more))
            self.assertEqual(cuts_of_plan(both), tuple(sorted(cuts_of_plan(plan) + cuts_of_plan(other))))
            for price in (1, 3):
                costs = [least_cost(each, price) for each in (plan, other)]
                whole = None if None in costs or sum(costs) > 3 else sum(costs)
                self.assertEqual(least_cost(both, price), whole)


def cuts_told_anew(plan, part, cuts):
    """Each cut between two neighbours that are parted in the elder plan, as [K5] tells it."""
    calls = {(number, place): call for number, _, told in plan[1] for place, call in enumerate(told)}
    left = {(number, *call) for number, _, told in part[1] for call in told}
    told = set()
    for kind, name, gap in cuts:
        marks = [mark for mark in thread(plan, kind, name)]
        kept = [(mark[0], *calls[mark]) in left for mark in marks]
        if any(kept[:gap]) and any(kept[gap:]):
            told.add((kind, name, sum(kept[:gap])))
    return tuple(sorted(told))


class TestParts(Joining):

    def parted(self, plan):
        """Parts of a plan, each with what [K4] tells of it by plain words."""
        numbers = [number for number, _, _ in plan[1]]
        minutes = sorted({minute for train in plan[1] for _, minute in train[2]})
        for chosen in ((), tuple(numbers[::2]), tuple(numbers[::-1] + numbers), (0, -5, 10 ** 50, *numbers[1:2])):
            yield only_trains(plan, chosen), lambda number, name, minute: number in chosen
        for chosen in ((), tuple(stations_of(plan)[::2]), stations_of(plan)[::-1] * 2,
                       ("zell", "Abel", "", *stations_of(plan)[:1])):
            yield only_stations(plan, chosen), lambda number, name, minute: name in chosen
        for edge in minutes[::2] + [each + 1 for each in minutes[::3]] + [-7, 0, 2879, 2880, GREAT, -GREAT]:
            yield ahead_of(plan, edge), lambda number, name, minute: minute < edge
            yield from_on(plan, edge), lambda number, name, minute: minute >= edge

    def test_drawn_plans(self):
        for plan in PLANS:
            for part, stays in self.parted(plan):
                self.assertIsNone(plan_error(part))
                self.assertTrue(plain(part))
                told = [(number, days, tuple(call for call in calls if stays(number, *call)))
                        for number, days, calls in plan[1]]
                self.assertEqual(part, (plan[0], tuple(train for train in told if train[2])))

    def test_what_makes_no_difference(self):
        self.assertEqual(only_trains(PLAN, (15, 12, 3, 15)), PLAN)
        self.assertEqual(only_trains(PLAN, (120, 1, 5, -12)), (PLAN[0], ()))
        self.assertEqual(only_stations(PLAN, ("bron", "zell", "abel", "bron")), PLAN)
        self.assertEqual(only_stations(PLAN, ("abe", "abell", "ABEL", "")), (PLAN[0], ()))
        self.assertEqual(only_stations(PLAN, ()), (PLAN[0], ()))
        self.assertEqual(only_trains(PLAN, ()), (PLAN[0], ()))

    def test_minutes_at_calls_and_beyond_all(self):
        self.assertEqual(ahead_of(PLAN, 425), (PLAN[0], ()))
        self.assertEqual(ahead_of(PLAN, 426), (PLAN[0], ((12, (0, 1), (("abel", 425),)),)))
        self.assertEqual(ahead_of(PLAN, 440)[1][0], (12, (0, 1), (("abel", 425),)))
        self.assertEqual(ahead_of(PLAN, 440)[1][1], PLAN[1][1])
        self.assertEqual(from_on(PLAN, 440), (PLAN[0], ((12, (0, 1), (("bron", 440),)),)))
        for minute in (441, 2880, GREAT):
            self.assertEqual(ahead_of(PLAN, minute), PLAN)
            self.assertEqual(from_on(PLAN, minute), (PLAN[0], ()))
        for minute in (425, 0, -1, -GREAT):
            self.assertEqual(from_on(PLAN, minute), PLAN)
            self.assertEqual(ahead_of(PLAN, minute), (PLAN[0], ()))

    def test_no_part_costs_more_than_the_whole(self):
        for seed, plan in enumerate(PLANS[::2]):
            costs = {price: least_cost(plan, price) for price in (1, 3)}
            for part, _ in self.parted(plan):
                for price, whole in costs.items():
                    self.assertTrue(no_more(least_cost(part, price), whole))
                for cuts in some_cuts(plan, seed):
                    if are_good(plan, cuts):
                        told = cuts_told_anew(plan, part, cuts)
                        self.assertIsNone(cuts_error(part, told))
                        self.assertTrue(are_good(part, told))

    def test_a_minute_that_parts_a_plan(self):
        some = 0
        early, late = small_plans(80, 4), small_plans(83, 4)[3:]
        for first, second in zip(early, late):
            second = moved((CALENDAR, tuple((number + 100, days, calls) for number, days, calls in second[1])), 70)
            plan = together(first, second)
            parts = (ahead_of(plan, 70), from_on(plan, 70))
            self.assertEqual(parts, (first, second))
            common = set(stations_of(first)) & set(stations_of(second))
            for price in (1, 2, 3):
                costs = [least_cost(part, price) for part in parts]
                whole = least_cost(plan, price)
                if None in costs or sum(costs) > 3:
                    self.assertIsNone(whole)
                else:
                    self.assertTrue(whole is None or whole >= sum(costs))
                    if sum(costs) + price * len(common) <= 3:
                        self.assertIsNotNone(whole)
                        self.assertLessEqual(whole, sum(costs) + price * len(common))
                        some += 1
        self.assertGreater(some, 20)


class TestBounds(Joining):

    def test_great_plans(self):
        for name, plan in GREAT_PLANS.items():
            with self.subTest(name=name), in_time(self, name):
                self.unfit(turned_plan, plan)
                self.unfit(moved, plan, 2880)
                self.assertEqual(moved(plan, 0), plan)
                half = tuple(number for number, _, _ in plan[1][::2])
                rest = tuple(number for number, _, _ in plan[1][1::2])
                self.assertEqual(together(only_trains(plan, rest), only_trains(plan, half)), plan)
                self.assertEqual(only_stations(plan, NAMES), plan)
                for minute in (0, 100, 1440):
                    self.assertIsNone(plan_error(ahead_of(plan, minute)))
                    self.assertIsNone(plan_error(from_on(plan, minute)))

    def test_a_great_plan_that_can_be_turned(self):
        plan = (CALENDAR, tuple((9984 + k, (0,), tuple((name, 16 * place + (k + place) % 16) for place, name in
                                                       enumerate(NAMES[:12]))) for k in range(16)))
        self.assertIsNone(plan_error(plan))
        with in_time(self):
            self.tells(turned_with(plan), turned_plan, plan)
            self.assertEqual(turned_cuts(turned_plan(plan), turned_cuts(plan, cuts_of_plan(plan))),
                             cuts_of_plan(turned_plan(turned_plan(plan))))


class TestConventions(Joining):

    def test_functions_of_joining(self):
        for plan in PLANS[::8] + [EMPTY, PLAN]:
            check_conventions(self, turned_plan, plan=plan)
            check_conventions(self, turned_cuts, plan=plan, cuts=cuts_of_plan(plan))
            check_conventions(self, together, plan=plan, other=(CALENDAR, ((999, (0,), (("zell", 9),)),)))
            check_conventions(self, together, plan=plan, other=plan)
            check_conventions(self, only_trains, plan=plan, numbers=(5, 3, 12, 3))
            check_conventions(self, only_stations, plan=plan, names=("bron", "aaaa", "bron"))
            for minute in (-5, 0, 7, 430, 3000):
                check_conventions(self, moved, plan=plan, by=minute)
                check_conventions(self, ahead_of, plan=plan, minute=minute)
                check_conventions(self, from_on, plan=plan, minute=minute)


if __name__ == "__main__":
    unittest.main()
