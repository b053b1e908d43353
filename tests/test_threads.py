"""Part C: threads, cuts, parts and their heads, and what stands ahead of what."""

import unittest

from risingsheets.threads import ahead, cuts_error, heads, part, place_of, thread
from tests.drawn import CALENDAR, NAMES, cuts_of_plan, plan_of, small_plans, some_cuts
from tests.great import GREAT_PLANS, in_time
from tests.reference import all_heads, head_with, marks_of, pairs_ahead, station_at
from tests.values import GREAT, ODD, check_conventions, check_told, put

EMPTY = (CALENDAR, ())

# At abel the trains 1 and 2 call at one minute, and train 2 a second time; bron has one call, cobb two.
TWICE = plan_of((("abel", 5), ("bron", 25), ("cobb", 50)), (("abel", 5), ("cobb", 7), ("abel", 9)))

ALL_AT_ONCE = (CALENDAR, tuple((number, (0,), (("abel", 7),)) for number in range(2, 50, 2)))

PLANS = small_plans(24) + [EMPTY, TWICE, ALL_AT_ONCE]


def cuts_for(plan):
    return some_cuts(plan, len(plan[1]))


class TestThreads(unittest.TestCase):

    def test_calls_at_one_minute_stand_by_their_numbers(self):
        self.assertEqual(thread(TWICE, "station", "abel"), ((1, 0), (2, 0), (2, 2)))
        self.assertEqual(thread(ALL_AT_ONCE, "station", "abel"), tuple((number, 0) for number in range(2, 50, 2)))
        plan = plan_of((("abel", 3), ("abel", 4)), (("abel", 4), ("abel", 5)), (("bron", 3), ("abel", 4)))
        self.assertEqual(thread(plan, "station", "abel"), ((1, 0), (1, 1), (2, 0), (3, 1), (2, 1)))

    def test_numbers_are_no_texts(self):
        plan = (CALENDAR, tuple((number, (0,), (("abel", 7),)) for number in (2, 9, 10, 100)))
        self.assertEqual(thread(plan, "station", "abel"), ((2, 0), (9, 0), (10, 0), (100, 0)))

    def test_trains(self):
        self.assertEqual(thread(TWICE, "train", 2), ((2, 0), (2, 1), (2, 2)))
        self.assertEqual(thread(ALL_AT_ONCE, "train", 48), ((48, 0),))

    def test_what_the_plan_does_not_have(self):
        for plan in PLANS:
            for name in ("zell", "a", "abelabelabel", "aaa"):
                self.assertEqual(thread(plan, "station", name), ())
            for number in (0, -1, 9999, GREAT, -GREAT):
                self.assertEqual(thread(plan, "train", number), ())

    def test_each_call_lies_on_one_thread_of_each_kind(self):
        for plan in PLANS:
            names = {station_at(plan, mark) for mark in marks_of(plan)}
            told = [mark for name in names for mark in thread(plan, "station", name)]
            self.assertEqual(sorted(told), sorted(marks_of(plan)))
            told = [mark for number, _, _ in plan[1] for mark in thread(plan, "train", number)]
            self.assertEqual(sorted(told), sorted(marks_of(plan)))
            for name in names:
                self.assertEqual({station_at(plan, mark) for mark in thread(plan, "station", name)}, {name})
                order = [mark for mark in marks_of(plan) if station_at(plan, mark) == name]
                self.assertEqual(list(thread(plan, "station", name)), order)


class TestCutsErrors(unittest.TestCase):

    def tells(self, expected, plan, *values):
        for value in values:
            check_told(self, expected, cuts_error, plan, value)

    def test_cuts(self):
        for plan in PLANS:
            self.tells(None, plan, *cuts_for(plan))
            for cut in cuts_of_plan(plan):
                self.tells(None, plan, (cut,))

    def test_no_tuple(self):
        for value in ODD:
            if not isinstance(value, tuple):
                self.tells("form", TWICE, value)
        self.tells("form", TWICE, list(cuts_of_plan(TWICE)), {("train", 1, 1): 2}, "train", 1)

    def test_any_tuples(self):
        for value in ODD:
            if isinstance(value, tuple) and value:
                self.tells(("cut", 0), TWICE, value)
            self.tells(("cut", 0), TWICE, (value,), (value, ("train", 1, 1)))
            self.tells(("cut", 1), TWICE, (("station", "abel", 1), value))
            self.tells(("cut", 0), EMPTY, (value,))

    def test_items_of_a_cut(self):
        for value in ODD + ("1", 0, 3, 4, 999):
            self.tells(("cut", 0), TWICE, (("train", 1, value),))
        for value in ODD + (0, 3, "1", "abel", "bron"):
            self.tells(("cut", 0), TWICE, (("train", value, 1),))
        for value in ODD + (1, 2, "bron", "cob", "cobbs", "dale", "Abel"):
            self.tells(("cut", 0), TWICE, (("station", value, 1),))
        for value in ODD + ("", "Train", "trains", "stations", "column", "columns", "rows", 1):
            self.tells(("cut", 0), TWICE, ((value, 1, 1),), ((value, "abel", 1),))

    def test_true_is_not_one(self):
        self.tells(None, TWICE, (("train", 1, 1),))
        self.tells(("cut", 0), TWICE, (("train", 1, True),), (("train", True, 1),), (("station", "abel", True),))

    def test_items_more_or_fewer_and_lists(self):
        for cut in (("station", "abel", 1), ("train", 1, 1)):
            self.tells(("cut", 0), TWICE, (cut + (1,),), (cut[:2],), (cut[:1],), ((),), (list(cut),), cut,
                       (cut[::-1],), (cut[1:] + cut[:1],), ((cut,),))

    def test_gaps_at_the_ends(self):
        self.tells(None, TWICE, (("train", 1, 2),), (("station", "abel", 2),), (("station", "cobb", 1),))
        self.tells(("cut", 0), TWICE, (("train", 1, 3),), (("station", "abel", 3),), (("station", "cobb", 2),),
                   (("station", "bron", 1),), (("train", 1, 0),), (("train", 1, -1),), (("station", "abel", 0),))

    def test_another_kind(self):
        self.tells(("cut", 0), TWICE, (("station", 1, 1),), (("train", "abel", 1),), (("train", "1", 1),))

    def test_order(self):
        for plan in PLANS:
            cuts = cuts_of_plan(plan)
            for place in range(1, len(cuts)):
                low, high = cuts[place - 1], cuts[place]
                self.tells(("cut", place), plan, cuts[:place - 1] + (high, low) + cuts[place + 1:],
                           cuts[:place] + (low,) + cuts[place:])
            for place in range(len(cuts)):
                self.tells(("cut", place + 1), plan, cuts[:place + 1] + (cuts[place],) + cuts[place + 1:])

    def test_stations_come_first_and_figures_are_no_texts(self):
        plan = plan_of(tuple(("abel", minute) for minute in range(12)))
        self.tells(None, plan, (("station", "abel", 9), ("station", "abel", 10), ("train", 1, 1)))
        self.tells(("cut", 1), plan, (("station", "abel", 10), ("station", "abel", 9)),
                   (("train", 1, 1), ("station", "abel", 1)))

    def test_the_first_wrong_place(self):
        cuts = cuts_of_plan(TWICE)
        for place in range(len(cuts)):
            for wrong in (None, ("train", 9, 1), cuts[place] + (1,)):
                self.tells(("cut", place), TWICE, put(cuts, (place,), wrong))
                self.tells(("cut", place), TWICE, cuts[:place] + (wrong,) * 3, cuts[:place] + (wrong, cuts[0], None))

    def test_cuts_of_another_plan(self):
        self.tells(("cut", 0), EMPTY, (("train", 1, 1),), (("station", "abel", 1),))
        self.tells(("cut", 1), ALL_AT_ONCE, (("station", "abel", 23), ("train", 2, 1)))
        self.tells(("cut", 0), ALL_AT_ONCE, (("station", "abel", 24),))


class TestParts(unittest.TestCase):

    def test_heads(self):
        cuts = (("station", "abel", 1), ("train", 1, 2), ("train", 2, 1))
        self.assertEqual(heads(TWICE, ()), ((("abel", 0), ("bron", 0), ("cobb", 0)), ((1, 0), (2, 0))))
        self.assertEqual(heads(TWICE, cuts),
                         ((("abel", 0), ("abel", 1), ("bron", 0), ("cobb", 0)), ((1, 0), (1, 2), (2, 0), (2, 1))))
        self.assertEqual(heads(EMPTY, ()), ((), ()))

    def test_heads_are_ascending_and_as_the_document_tells(self):
        for plan in PLANS:
            for cuts in cuts_for(plan):
                self.assertEqual(heads(plan, cuts), (tuple(all_heads(plan, cuts, "station")),
                                                     tuple(all_heads(plan, cuts, "train"))))

    def test_parts_of_a_thread_make_it_up(self):
        for plan in PLANS:
            for cuts in cuts_for(plan):
                for kind, told in zip(("station", "train"), heads(plan, cuts)):
                    for name in {name for name, _ in told}:
                        parts = [part(plan, cuts, kind, head) for head in told if head[0] == name]
                        self.assertEqual(sum(parts, ()), thread(plan, kind, name))
                        firsts = [first for each, first in told if each == name]
                        marks = thread(plan, kind, name)
                        self.assertEqual([marks.index(each[0]) for each in parts], firsts)
                        gaps = [gap for word, each, gap in cuts if (word, each) == (kind, name)]
                        self.assertEqual(firsts[1:], gaps)

    def test_parts_and_places_agree(self):
        for plan in PLANS:
            for cuts in cuts_for(plan):
                rows, columns = heads(plan, cuts)
                for mark in marks_of(plan):
                    row, column = place_of(plan, cuts, mark)
                    self.assertEqual([head for head in rows if mark in part(plan, cuts, "station", head)], [row])
                    self.assertEqual([head for head in columns if mark in part(plan, cuts, "train", head)], [column])
                    self.assertEqual(row, head_with(plan, cuts, "station", mark))
                    self.assertEqual(column, head_with(plan, cuts, "train", mark))

    def test_all_cuts_leave_single_calls(self):
        for plan in PLANS:
            cuts = cuts_of_plan(plan)
            rows, columns = heads(plan, cuts)
            self.assertEqual((len(rows), len(columns)), (len(marks_of(plan)), len(marks_of(plan))))
            for head in rows:
                self.assertEqual(len(part(plan, cuts, "station", head)), 1)


class TestAhead(unittest.TestCase):

    def test_calls_at_one_minute_tell_nothing(self):
        for side in ("columns", "rows"):
            self.assertEqual(ahead(ALL_AT_ONCE, (), side), ())
        self.assertEqual(ahead(TWICE, (("station", "abel", 2),), "columns"), (((2, 0), (1, 0)),))

    def test_a_head_ahead_of_itself(self):
        plan = plan_of((("abel", 5), ("bron", 10), ("abel", 20)))
        self.assertEqual(ahead(plan, (), "columns"), (((1, 0), (1, 0)),))
        self.assertIn((("abel", 0), ("abel", 0)), ahead(plan, (), "rows"))
        self.assertEqual(ahead(plan, (("train", 1, 2),), "columns"), (((1, 0), (1, 2)),))
        self.assertEqual(ahead(plan, (("station", "abel", 1),), "columns"), ())

    def test_each_pair_is_told_once(self):
        many = plan_of((("abel", 5), ("bron", 6), ("cobb", 7)), (("abel", 8), ("bron", 9), ("cobb", 10)))
        self.assertEqual(ahead(many, (), "columns"), (((1, 0), (2, 0)),))
        self.assertEqual(len(ahead(many, (), "rows")), 3)

    def test_all_that_the_document_tells(self):
        for plan in PLANS[:-1]:
            for cuts in cuts_for(plan):
                for side in ("columns", "rows"):
                    told = ahead(plan, cuts, side)
                    self.assertEqual(told, pairs_ahead(plan, cuts, side))
                    self.assertEqual(list(told), sorted(set(told)))

    def test_with_all_cuts_nothing_is_ahead(self):
        for plan in PLANS:
            for side in ("columns", "rows"):
                self.assertEqual(ahead(plan, cuts_of_plan(plan), side), ())


class TestBounds(unittest.TestCase):

    def test_great_plans(self):
        for name, plan in GREAT_PLANS.items():
            for cuts in some_cuts(plan, 5):
                with self.subTest(name=name), in_time(self, name):
                    self.assertIsNone(cuts_error(plan, cuts))
                    rows, columns = heads(plan, cuts)
                    self.assertEqual(sum(len(part(plan, cuts, "station", head)) for head in rows),
                                     sum(len(part(plan, cuts, "train", head)) for head in columns))
                    for side in ("columns", "rows"):
                        ahead(plan, cuts, side)
                    place_of(plan, cuts, (plan[1][0][0], 0))

    def test_one_station_with_all_calls(self):
        plan = GREAT_PLANS["one station"]
        self.assertEqual(len(thread(plan, "station", NAMES[0])), 200)
        self.assertEqual(thread(plan, "station", NAMES[0])[:24], tuple((number, 0) for number in range(1, 25)))
        self.assertEqual(len(ahead(plan, (), "columns")), 24 * 24)


class TestConventions(unittest.TestCase):

    def test_functions_of_threads(self):
        for plan in PLANS[:8] + PLANS[-3:]:
            check_conventions(self, thread, plan=plan, kind="station", name=NAMES[0])
            check_conventions(self, thread, plan=plan, kind="train", name=2)
            for cuts in cuts_for(plan):
                check_conventions(self, cuts_error, plan=plan, value=cuts)
                check_conventions(self, heads, plan=plan, cuts=cuts)
                for side in ("columns", "rows"):
                    check_conventions(self, ahead, plan=plan, cuts=cuts, side=side)
                for kind, told in zip(("station", "train"), heads(plan, cuts)):
                    for head in told[:3]:
                        check_conventions(self, part, plan=plan, cuts=cuts, kind=kind, head=head)
                for mark in marks_of(plan)[:3]:
                    check_conventions(self, place_of, plan=plan, cuts=cuts, mark=mark)

    def test_cuts_error_of_any_value(self):
        for value in ODD + (cuts_of_plan(TWICE), [cuts_of_plan(TWICE)]):
            check_conventions(self, cuts_error, plan=TWICE, value=value)


if __name__ == "__main__":
    unittest.main()
