"""Part L: a shell, line by line."""

import unittest
from random import Random

from risingsheets.benches import Bench
from risingsheets.errors import SheetError
from risingsheets.plantexts import plan_text, read_plan
from risingsheets.shells import Shell
from tests.drawn import NAMES, cuts_of_plan, drawn_cuts, small_plans
from tests.great import GREAT_PLANS, in_time
from tests.values import GREAT, ODD

ONE = "plan calendar 0 7 / 1 daily: abel 7:05, bron 7:20"
BOTH = ONE + " / 3 daily: bron 7:10, abel 7:30 / cuts train 3 1"
WORDS = ("add", "change", "drop", "recut", "undo", "redo", "cuts", "cost", "heads", "calls")
WHOLE = ("undo", "redo", "cuts", "heads")

# Texts that are no counts.
NO_COUNTS = ("", " ", "00", "01", "+1", "-1", "1 ", " 1", "1.0", "1000000", "1234567", "9" * 5000, "a", "1_0", "1,0",
             "one",
             "0x1", "1e3", str(GREAT))

# Texts that are no cuts: words, names, counts, commas and blanks that are wrong.
NO_CUTS = ("", " ", "none ", " none", "None", "none, none", "train", "train 3", "train 3 1 1", "train 3 1,train 3 2",
           "train 3 1, ", ", train 3 1", "train 3 1,  train 3 2", "train  3 1", "train 3  1", "Train 3 1", "train a 1",
           "train 3 a", "train 3 -1", "train 03 1", "train 3 01", "train 1000000 1", "train 3 1000000", "station 3 1",
           "station Abel 1", "station abcdefghijklm 1", "station  1", "station abel", "station abel x", "row abel 1",
           "train 3 1;", "train 3 1, none", "cuts train 3 1", "train 3 " + "1" * 5000, "station abel 1 train 3 1",
           "abel 1")


def cuts_as_text(cuts):
    return ", ".join(" ".join(str(each) for each in cut) for cut in cuts) or "none"


def plan_line(plan, cuts=None):
    """The line that tells a plan, with cuts if they are told."""
    return "plan " + " / ".join(plan_text(plan).split("\n") + ([] if cuts is None else ["cuts " + cuts_as_text(cuts)]))


class Shells(unittest.TestCase):

    def says(self, shell, *told):
        """Checks the answers to lines, which come as a line and its answer by turns."""
        for line, answer in zip(told[::2], told[1::2]):
            with self.subTest(line=repr(line)[:200]):
                self.assertEqual(shell.say(line), answer)

    def made(self, *lines):
        """A shell behind these lines, each of which is done."""
        shell = Shell()
        for line in lines:
            self.assertNotIn(shell.say(line).split(" ")[0], ("error", "what", "no"))
        return shell


class TestLines(Shells):

    def test_the_parameter_has_its_name(self):
        self.assertEqual(Shell().say(line="undo"), "no bench")

    def test_ahead_of_a_bench(self):
        shell = Shell()
        for word in WORDS:
            self.says(shell, word, "no bench", word + " ", "no bench", word + " x y", "no bench", word + "  ",
                      "no bench",
                      word + "x", "what", " " + word, "what", word.upper(), "what", word + "\n", "what", word + " \nx",
                      "what")
        self.says(shell, "", "what", " ", "what", "plan", "what", "plan ", "error BadText", "undo", "no bench")
        # Only a plan that tells ok makes a bench.
        self.says(shell, "plan calendar 9 9", "error BadText", "cuts", "no bench", ONE, "ok", "cuts", "none")

    def test_no_strings_and_other_lines(self):
        for shell in (Shell(), self.made(ONE)):
            for value in ODD:
                if not isinstance(value, str) or value.split(" ")[0] not in WORDS + ("plan",):
                    self.says(shell, value, "what")
            for line in ("", " ", "planx", "plans calendar 0 7", "Plan calendar 0 7", " plan calendar 0 7", "undoo",
                         "un", "quit",
                         "ok", "version", "none", "what", "error", "batch", "at 0", "copy", "plan\tcalendar 0 7",
                         "cuts\t", b"cuts"):
                self.says(shell, line, "what")

    def test_line_feeds(self):
        shell = self.made(BOTH)
        for line in ("cuts\n", "\ncuts", "\n", "cuts \n", "drop 1\n", "plan calendar 0 7\n1 daily: abel 7:05",
                     BOTH + "\n",
                     "undo\n", "add 5 daily: abel 7:05\n", "calls abel\n", "recut none\n", "cost 1\n", "heads\nheads"):
            self.says(shell, line, "what")
        self.says(shell, "cuts", "train 3 1", "undo", "error NothingToUndo")

    def test_whole_lines_and_rests(self):
        shell = self.made(BOTH)
        for word in WHOLE:
            self.says(shell, word + " ", "what", word + " 1", "what", word + "  ", "what", word + " " + word, "what")
        for word in WORDS + ("plan",):
            if word not in WHOLE:
                self.says(shell, word, "what")
        self.says(shell, "add ", "error BadText", "change ", "error BadText", "plan ", "error BadText", "drop ", "what",
                  "recut ", "what", "cost ", "what", "calls ", "what")
        self.says(shell, "cuts", "train 3 1", "heads", "2 3", "undo", "error NothingToUndo", "redo",
                  "error NothingToRedo")


class TestPlans(Shells):

    def test_plans_and_cuts(self):
        for seed, plan in enumerate(small_plans(30, 7)):
            for cuts in (cuts_of_plan(plan), drawn_cuts(seed, plan, 8)):
                shell = Shell()
                try:
                    bench = Bench(plan, cuts)
                except SheetError as error:
                    self.says(shell, plan_line(plan, cuts), f"error {type(error).__name__}", "cuts", "no bench")
                else:
                    self.says(shell, plan_line(plan, cuts), "ok", "cuts", cuts_as_text(cuts),
                              "heads", f"{len(bench.sheet[2])} {len(bench.sheet[3])}")
            try:
                Bench(plan, ())
            except SheetError:
                self.says(Shell(), plan_line(plan), "error HasRing", plan_line(plan, ()), "error HasRing")
            else:
                self.says(Shell(), plan_line(plan), "ok", "cuts", "none", plan_line(plan, ()), "ok", "cuts", "none")

    def test_plans_without_trains(self):
        self.says(Shell(), "plan calendar 0 7", "ok", "heads", "0 0", "cuts", "none", "cost 3", "0", "calls abel",
                  "error NoStation", "drop 1", "error NoTrain", "undo", "error NothingToUndo")
        self.says(Shell(), "plan calendar 0 7 holidays 2,4 / cuts none", "ok", "heads", "0 0")

    def test_texts_that_are_refused(self):
        shell = self.made(BOTH)
        for rest in ("", " ", "calendar", "calendar 7 7", "calendar 0 7 /", "calendar 0 7 / ", " / calendar 0 7", "/",
                     " / ",
                     "calendar 0 7 / x", "calendar 0 7 / 1 daily: abel 7:5", "calendar 0 7 / 1 daily: abel 7:05 /",
                     "calendar 0 7/1 daily: abel 7:05", "calendar 0 7 /1 daily: abel 7:05",
                     "calendar 0 7 /  / 1 daily: abel 7:05",
                     "calendar 0 7 / 0 daily: abel 7:05", "cuts none", "cuts train 3 1", "cuts none / calendar 0 7",
                     "calendar 0 7 / cuts none / 1 daily: abel 7:05", "calendar 0 7 / cuts none / cuts none",
                     "calendar 0 7 / cuts", "calendar 0 7 / cuts ", "calendar 0 7 / Cuts none",
                     "calendar 0 7 /  cuts none",
                     "calendar 0 7 / cuts  none", "calendar 0 7 / none", " calendar 0 7", "plan calendar 0 7"):
            self.says(shell, "plan " + rest, "error BadText", "cuts", "train 3 1")
        for rest in NO_CUTS:
            self.says(shell, f"plan calendar 0 7 / 1 daily: abel 7:05 / cuts {rest}", "error BadText")
        self.says(shell, "heads", "2 3")

    def test_blanks_around_strokes(self):
        # From the left on: in the last one the blank behind the first stroke is not there for a second one.
        shell = Shell()
        self.says(shell, "plan calendar 0 7 / 1 daily: abel 7:05 / 2 daily: abel 7:06", "ok", "heads", "1 2")
        self.says(shell, "plan calendar 0 7 / / 1 daily: abel 7:05", "error BadText",
                  "plan calendar 0 7 / / / 1 daily: abel 7:05", "error BadText", "heads", "1 2")

    def test_plans_and_cuts_that_are_refused(self):
        shell = self.made(BOTH)
        one = "plan calendar 0 7 / 1 daily: abel 7:05, bron 7:20"
        self.says(shell, "plan calendar 0 7 / 1 never: abel 7:05", "error BadPlan",
                  "plan calendar 0 7 / 1 daily: abel 7:05, bron 7:05", "error BadPlan",
                  "plan calendar 0 7 / 1 daily: abel 7:05 / 1 daily: abel 7:05", "error BadPlan",
                  "plan calendar 0 7 / 1 never: abel 7:05 / cuts train 9 9", "error BadPlan",
                  one + " / cuts train 1 2", "error BadCuts", one + " / cuts train 0 0", "error BadCuts",
                  one + " / cuts train 1 1, train 1 1", "error BadCuts", one + " / cuts train 1 1, station abel 1",
                  "error BadCuts",
                  one + " / cuts station abel 1", "error BadCuts", one + " / cuts train 999999 999999", "error BadCuts",
                  BOTH.replace(" / cuts train 3 1", ""), "error HasRing", BOTH.replace("train 3 1", "none"),
                  "error HasRing",
                  BOTH.replace("train 3 1", "train 3 2"), "error BadCuts",
                  "cuts", "train 3 1", "heads", "2 3")

    def test_a_new_bench(self):
        shell = self.made(BOTH, "drop 1", "undo")
        self.says(shell, ONE, "ok", "undo", "error NothingToUndo", "redo", "error NothingToRedo", "heads", "2 1",
                  "cuts", "none")

    def test_a_refused_plan_leaves_the_elder_bench(self):
        shell = self.made(ONE, "add 5 daily: bron 9:00", "undo")
        self.says(shell, BOTH.replace("train 3 1", "none"), "error HasRing", "redo", "version 1", "calls bron",
                  "7:20 1, 9:00 5")

    def test_other_days_than_plain_ones(self):
        self.says(Shell(), "plan calendar 0 7 / 1 mo+tu not 1: abel 7:05", "ok", "calls abel", "7:05 1")


class TestEdits(Shells):

    def test_add_and_change(self):
        shell = self.made(ONE)
        self.says(shell, "add 3 daily: bron 7:10, abel 7:30", "error HasRing", "add 2 daily: abel 8:00", "version 1",
                  "calls abel", "7:05 1, 8:00 2", "add 2 daily: abel 8:00", "error Unfit", "add 1 mo: abel 0:00",
                  "error Unfit",
                  "add 3 never: abel 8:00", "error BadPlan", "change 3 daily: abel 8:00", "error NoTrain",
                  "change 2 mo+we: abel 8:01, bron 9:00", "version 2", "calls abel", "7:05 1, 8:01 2",
                  "change 2 mo: abel 24:00",
                  "version 3", "calls abel", "7:05 1, 24:00 2", "change 2 never: abel 8:00", "error BadPlan",
                  "add 9999 su: zell 47:59", "version 4", "calls zell", "47:59 9999")

    def test_lines_of_trains(self):
        shell = self.made(ONE)
        for line in ("", " ", "5", "5 daily", "5 daily:", "5 daily: ", "5 daily: abel", "5 daily: abel 7:5",
                     "5 daily: Abel 7:05",
                     "5  daily: abel 7:05", "5 daily : abel 7:05", "5 daily: abel 7:05,bron 7:06",
                     "5 daily: abel 7:05, ",
                     "0 daily: abel 7:05", "10000 daily: abel 7:05", "05 daily: abel 7:05", "5 hol: abel 7:05",
                     "5 daily not 7: abel 7:05",
                     "5 daily: abel 7:05 / 6 daily: abel 7:06", "5 daily: abel 48:00", " 5 daily: abel 7:05",
                     "calendar 0 7",
                     "9" * 5000 + " daily: abel 7:05"):
            self.says(shell, "add " + line, "error BadText", "change " + line, "error BadText")
        self.says(shell, "undo", "error NothingToUndo")

    def test_days_of_the_calendar_of_the_bench(self):
        shell = self.made("plan calendar 6 3 holidays 1 / 1 hol: abel 7:05")
        self.says(shell, "add 2 mo: abel 8:00", "error BadText", "add 2 su: abel 8:00", "version 1",
                  "add 3 tu+hol: abel 8:01", "version 2",
                  "add 4 daily not 1: abel 8:02", "version 3", "add 5 daily not 3: abel 8:03", "error BadText")

    def test_drop(self):
        shell = self.made(BOTH)
        self.says(shell, "drop 0", "error NoTrain", "drop 2", "error NoTrain", "drop 999999", "error NoTrain",
                  "drop 10000",
                  "error NoTrain", "drop 3", "version 1", "cuts", "none", "drop 3", "error NoTrain", "drop 1",
                  "version 2",
                  "heads", "0 0")
        for text in NO_COUNTS:
            self.says(shell, "drop " + text, "what")

    def test_recut(self):
        shell = self.made(BOTH)
        self.says(shell, "recut none", "error HasRing", "recut station abel 1, train 3 1", "version 1", "cuts",
                  "station abel 1, train 3 1", "recut train 3 1, station abel 1", "error BadCuts",
                  "recut train 3 1, train 3 1",
                  "error BadCuts", "recut train 3 0", "error BadCuts", "recut train 0 1", "error BadCuts",
                  "recut train 3 999999",
                  "error BadCuts", "recut train 999999 1", "error BadCuts", "recut station abel 0", "error BadCuts",
                  "recut station zell 1", "error BadCuts", "recut station abcdefghijkl 999999", "error BadCuts",
                  "recut station bron 1", "version 2", "cuts", "station bron 1", "heads", "3 2")
        for text in NO_CUTS:
            self.says(shell, "recut " + text, "what")
        self.says(shell, "cuts", "station bron 1")

    def test_undo_and_redo(self):
        shell = self.made(ONE)
        self.says(shell, "undo", "error NothingToUndo", "redo", "error NothingToRedo", "drop 1", "version 1", "undo",
                  "version 0",
                  "redo", "version 1", "redo", "error NothingToRedo", "undo", "version 0", "add 2 daily: cole 1:00",
                  "version 1",
                  "redo", "error NothingToRedo")

    def test_too_many_edits(self):
        shell = self.made(ONE)
        for version in range(1, 41):
            self.says(shell, "recut train 1 1" if version % 2 else "recut none", f"version {version}")
        self.says(shell, "recut none", "error TooManyEdits", "drop 1", "error TooManyEdits", "drop 2", "error NoTrain",
                  "add 3 daily: bron 7:10, abel 7:30", "error HasRing", "undo", "version 39", "drop 1", "version 40")


class TestAsks(Shells):

    def test_cuts(self):
        self.says(self.made(BOTH), "cuts", "train 3 1")
        self.says(self.made(BOTH.replace("train 3 1", "station abel 1, station bron 1, train 1 1, train 3 1")), "cuts",
                  "station abel 1, station bron 1, train 1 1, train 3 1", "heads", "4 4")

    def test_cost(self):
        shell = self.made(BOTH.replace("train 3 1", "station abel 1, station bron 1, train 1 1"))
        self.says(shell, "cost 1", "3", "cost 2", "5", "cost 3", "7", "cost 0", "what", "cost 4", "what", "cost 10",
                  "what")
        for text in NO_COUNTS:
            self.says(shell, "cost " + text, "what")
        self.says(shell, "cost 01", "what", "cost 3 ", "what", "cost  3", "what", "recut train 1 1", "version 1",
                  "cost 3", "1")

    def test_heads(self):
        shell = self.made("plan calendar 0 7 / 1 daily: abel 7:05, bron 7:20, cole 7:30")
        self.says(shell, "heads", "3 1", "recut train 1 1, train 1 2", "version 1", "heads", "3 3")

    def test_calls(self):
        shell = self.made("plan calendar 0 7 / 2 daily: abel 7:06, bron 24:00, abel 24:01 / 10 mo: abel 7:06"
                          " / 30 tu: abel 7:05 / cuts train 2 2")
        self.says(shell, "calls abel", "7:05 30, 7:06 2, 7:06 10, 24:01 2", "calls bron", "24:00 2", "calls cole",
                  "error NoStation",
                  "calls a", "error NoStation", "calls abcdefghijkl", "error NoStation")
        for text in ("", " ", "Abel", "abel ", " abel", "abel bron", "abcdefghijklm", "1", "ab1", "abel,", "a-b",
                     "a" * 5000):
            self.says(shell, "calls " + text, "what")

    def test_stations_that_are_called_as_words(self):
        shell = self.made("plan calendar 0 7 / 1 daily: cuts 7:05, none 7:06, station 7:07, train 7:08"
                          " / cuts train 1 3")
        self.says(shell, "calls none", "7:06 1", "calls cuts", "7:05 1", "recut station train 1", "error BadCuts",
                  "recut station none 1, station station 1", "error BadCuts", "add 2 daily: station 9:00", "version 1",
                  "recut station station 1", "version 2", "cuts", "station station 1")


class TestBesideABench(Shells):

    def answer(self, function, *arguments):
        try:
            told = function(*arguments)
        except SheetError as error:
            return f"error {type(error).__name__}"
        return f"version {told}"

    def test_drawn_lines(self):
        seen = set()
        for seed, plan in enumerate(small_plans(30, 7)):
            drawn = Random(seed)
            shell, bench = self.made(plan_line(plan, cuts_of_plan(plan))), Bench(plan, cuts_of_plan(plan))
            for _ in range(25):
                word = drawn.choice(["add", "change", "drop", "recut", "undo", "redo"])
                number = drawn.choice([train[0] for train in bench.plan[1]] + [drawn.randint(1, 30)])
                if word in ("add", "change"):
                    minute = drawn.randrange(50)
                    rest = f"{number} {drawn.choice(['daily', 'we', 'th not 7', 'never'])}: " + drawn.choice(
                        [f"{NAMES[0]} 0:{minute:02}", f"{NAMES[1]} 0:{minute:02}, {NAMES[0]} 1:00"])
                    train = None
                    try:
                        train = read_plan(plan_text((plan[0], ())) + "\n" + rest)[1][0]
                    except SheetError as error:
                        answer = f"error {type(error).__name__}"
                    if train:
                        answer = self.answer(getattr(bench, word), train)
                elif word == "drop":
                    rest, answer = str(number), self.answer(bench.drop, number)
                elif word == "recut":
                    cuts = drawn.choice([(), cuts_of_plan(bench.plan), drawn_cuts(seed, bench.plan, 6),
                                         (("train", number, 8),)])
                    rest, answer = cuts_as_text(cuts), self.answer(bench.recut, cuts)
                else:
                    rest, answer = None, self.answer(getattr(bench, word))
                self.says(shell, word if rest is None else f"{word} {rest}", answer, "cuts", cuts_as_text(bench.cuts),
                          "heads", f"{len(bench.sheet[2])} {len(bench.sheet[3])}")
                seen.add(answer.split(" ")[1] if answer.startswith("error") else word)
        for each in ("add", "change", "drop", "recut", "undo", "redo", "BadPlan", "BadCuts", "HasRing", "Unfit",
                     "NoTrain", "NothingToUndo", "NothingToRedo"):
            self.assertIn(each, seen)

    def test_two_shells_go_their_own_way(self):
        one, other = self.made(ONE), self.made(BOTH)
        self.says(one, "drop 1", "version 1")
        self.says(other, "heads", "2 3", "undo", "error NothingToUndo")

    def test_great_plans(self):
        for name, plan in GREAT_PLANS.items():
            with self.subTest(name=name), in_time(self, name):
                shell = self.made(plan_line(plan, cuts_of_plan(plan)), f"drop {plan[1][3][0]}", "undo", "redo",
                                  "heads", "cost 3")
                self.says(shell, "plan " + "9" * 19990, "error BadText", "plan" + " / " * 6000, "error BadText",
                          "add " + "a " * 9000, "error BadText", "recut " + "train 1 1, " * 1800, "what")

    def test_errors_that_a_plan_can_not_have_by_a_bench(self):
        shell = self.made("plan calendar 0 7 / " + " / ".join(f"{number} daily: abel 7:05" for number in range(1, 25)))
        self.says(shell, "add 30 daily: abel 7:06", "error BadPlan", "change 3 daily: "
                  + ", ".join(f"{name} {k}:00" for k, name in enumerate(NAMES)), "error BadPlan")


if __name__ == "__main__":
    unittest.main()
