"""Part I: supplements as texts, there and back."""

import unittest
from random import Random

from risingsheets.daytexts import days_text
from risingsheets.errors import BadText, SheetError
from risingsheets.supplements import following, read_supplement, supplement, supplement_text
from tests.calendars import changed
from tests.changes import CHANGES
from tests.drawn import CALENDAR, NAMES
from tests.great import in_time
from tests.test_supplements import MORE, NOTHING, STILL
from tests.values import GREAT, ODD, check_conventions, put

# Supplements by their form alone: words as names, the least and the greatest numbers, more trains than a plan has.
FORMAL = [
    MORE, NOTHING,
    ((0, 400, (0, 399)), (1, 2, 9999), (), (("station", "a", 1), ("station", "abcdefghijkl", 199),
                                            ("train", 9999, 199)),
     ((("first", 0), ("put", 199), ("strike", 7)), ((("none", 2), ("behind", 0)), (("behind", 0), ("behind", 1)),
                                                    (("columns", 0), None), (("rows", 0), ("first", 3)))),
     (((1, 0), (9999, 199)), (((5, 5), None), ((5, 5), (5, 6)), ((5, 5), (5, 5))))),
    ((6, 9, ()), (30,), tuple((number, tuple(range(9)), (("none", number), ("cuts", 2879))) for number in range(1, 30)),
     (("station", "station", 1), ("station", "train", 10), ("train", 1, 1)), STILL, STILL),
    ((5, 9, (2, 8)), (), ((7, (1, 8), (("abel", 5),)), (8, (2, 8), (("abel", 5),) + tuple(
        (name, 10 + place) for place, name in enumerate(NAMES * 20)))), (), STILL, (((4, 4),), ())),
]

TEXT = supplement_text(MORE)
LINES = TEXT.split("\n")

# For what stands in TEXT what makes the text of no supplement of it.
WRONG = {
    "supplement": ("Supplement", "supplement 1", ""),
    "calendar 3 30": ("calendar 7 30", "calendar 3 0", "calendar 3 4", "calendar 03 30"),
    " holidays 4,11": (" holidays", " holidays 4,30", " holidays 11,4"),
    "gone none": ("gone", "gone ", "gone none none", "gone 2 1", "gone 3", "gone 1, 2", "gone 1,2", "gone 0",
                  "gone 10000",
                  "gone 1 1", "gone 01", "gone 1 none", "left none"),
    "3 never": ("0 never", "03 never", "10000 never", "3  never", "never"),
    "never also 0": ("never", "th not 7,14,21,28", "never also 30", "never also 0 not 7"),
    "cody 0:03": ("cody 0:25", "cody 0:3", "Cody 0:03", "cody  0:03"),
    ": cody 0:03, bron 0:25": (":", ""),
    "cuts none": ("cuts", "cuts ", "cuts none, none", "cut none", "cuts none\ncuts none", "cuts train 1",
                  "cuts train 1 1, ",
                  "cuts train 1 1,train 2 1", "cuts train 2 1, train 1 1", "cuts train 1 1, train 1 1",
                  "cuts train 1 1, station abel 1", "cuts train abel 1", "cuts station 1 1", "cuts train 0 1",
                  "cuts train 1 0", "cuts train 1 200", "cuts train 10000 1", "cuts train 1 01", "cuts  train 1 1",
                  "cuts train  1 1", "cuts row abel 1", "cuts station Abel 1"),
    "rows": ("row", "rows ", "rows none", ""),
    "put cody 0 first": ("strike cody 0 first", "put cody 0 first\nstrike abel 0", "put cody 0 First", "put cody 0",
                         "put cody 0 behind", "put Cody 0 first", "put 3 0 first", "put cody 200 first",
                         "put cody 00 first", "put cody 0 first 1", "put cody 0 first 1 2"),
    "behind abel 0": ("ahead abel 0", "behind abel", "behind abel 0 1", "behind 1 0", "behind abel 200",
                      "behind abel 00",
                      "behind Abel 0", "first abel 0"),
    "columns": ("rows", "columns\ncolumns", "column", "columns 1", ""),
    "strike 2 0": ("strike 2", "strike 2 0 0", "struck 2 0", "strike abel 0", "strike 2 200", "strike 2 00",
                   "strike 0 0",
                   "strike 02 0", "strike 2 0\nstrike 1 0", "strike 2 0\nstrike 2 0", "strike 10000 0", "strike 2 -1",
                   "put 2 0", "strike 2 0 first"),
    "put 3 0 behind 1 0": ("put 3 0 behind cody 0", "put cody 0 behind 1 0", "put 3 0 behind 10000 0",
                           "put 3 0 behind 0 0",
                           "put 3 0 behind 1 200", "put 0 0 behind 1 0", "put 3 200 behind 1 0", "put 3 0 behind 01 0"),
}


def text_with(told):
    """The text of a supplement, by [I10]."""
    (first, length, holidays), gone, new, cuts, *moves = told
    lines = ["supplement", f"calendar {first} {length}"]
    lines[1] += " holidays " * bool(holidays) + ",".join(map(str, holidays))
    lines.append(" ".join(["gone"] + [str(number) for number in gone] + ["none"] * (not gone)))
    for number, days, calls in new:
        called = ", ".join(f"{name} {minute // 60}:{minute % 60:02}" for name, minute in calls)
        lines.append(f"{number} {days_text(told[0], days)}: {called}")
    lines.append("cuts " + (", ".join(" ".join(map(str, cut)) for cut in cuts) or "none"))
    for word, (struck, puts) in zip(("rows", "columns"), moves):
        lines.append(word)
        lines += ["strike " + " ".join(map(str, head)) for head in struck]
        for head, other in puts:
            lines.append(" ".join(map(str, ("put",) + head + (("behind",) + other if other else ("first",)))))
    return "\n".join(lines)


def some_supplements():
    return [supplement(sheet, following(sheet, plan, cuts)) for sheet, plan, cuts in CHANGES[::4]]


SOME = FORMAL + some_supplements()


class SupplementTexts(unittest.TestCase):

    def refuses(self, *values):
        for value in values:
            with self.subTest(value=repr(value)[:400]), self.assertRaises(BadText) as caught:
                read_supplement(value)
            self.assertIsInstance(caught.exception, SheetError)
            self.assertIsInstance(caught.exception, ValueError)

    def check(self, text):
        """Checks that a text is refused or is that of the supplement that is read; returns whether it is read."""
        try:
            told = read_supplement(text)
        except BadText:
            return False
        self.assertEqual(text_with(told), text)
        return True


class TestThereAndBack(SupplementTexts):

    def test_each_supplement(self):
        for told in SOME:
            text = supplement_text(told)
            self.assertEqual(text, text_with(told))
            self.assertEqual(repr(read_supplement(text)), repr(told))

    def test_unlike_supplements_have_unlike_texts(self):
        self.assertEqual(len({supplement_text(told) for told in SOME}), len(set(SOME)))

    def test_lines(self):
        self.assertEqual(LINES, [
            "supplement", "calendar 3 30 holidays 4,11", "gone none", "3 never also 0: cody 0:03, bron 0:25",
            "cuts none",
            "rows", "put cody 0 first", "put bron 0 behind abel 0", "columns", "strike 2 0", "put 3 0 behind 1 0",
            "put 2 0 behind 3 0"])
        self.assertEqual(supplement_text(FORMAL[2]).split("\n"), [
            "supplement", "calendar 0 400 holidays 0,399", "gone 1 2 9999",
            "cuts station a 1, station abcdefghijkl 199, train 9999 199", "rows", "strike first 0", "strike put 199",
            "strike strike 7", "put none 2 behind behind 0", "put behind 0 behind behind 1", "put columns 0 first",
            "put rows 0 behind first 3", "columns", "strike 1 0", "strike 9999 199", "put 5 5 first",
            "put 5 5 behind 5 6",
            "put 5 5 behind 5 5"])
        self.assertEqual(supplement_text(NOTHING).split("\n"), [
            "supplement", "calendar 3 30 holidays 4,11", "gone none", "cuts none", "rows", "columns"])


class TestChangedTexts(SupplementTexts):

    def test_each_sign(self):
        for told in (MORE, FORMAL[2], put(FORMAL[3], (2,), FORMAL[3][2][:2]), NOTHING):
            text = supplement_text(told)
            read = [self.check(other) for other in changed(text, " ,:0129abe\nA")]
            self.assertTrue(any(read) and not all(read))

    def test_each_line(self):
        for told in SOME[:30]:
            lines = supplement_text(told).split("\n")
            for place in range(len(lines)):
                self.check("\n".join(lines[:place] + lines[place + 1:]))
                self.check("\n".join(lines[:place] + lines[place:place + 1] + lines[place:]))
                self.check("\n".join(lines[:place]))
                for other in range(place):
                    turned = list(lines)
                    turned[place], turned[other] = lines[other], lines[place]
                    self.check("\n".join(turned))

    def test_each_line_of_more(self):
        # Without a put, or with one twice, the form is that of another supplement; so it is without the train.
        loose = (3, 6, 7, 9, 10, 11)
        for place in range(12):
            lacking, doubled = LINES[:place] + LINES[place + 1:], LINES[:place + 1] + LINES[place:]
            self.assertIs(self.check("\n".join(lacking)), place in loose)
            self.assertIs(self.check("\n".join(doubled)), place in loose and place not in (3, 9))
            for other in range(place):
                turned = list(LINES)
                turned[place], turned[other] = LINES[other], LINES[place]
                puts = (place, other) in ((7, 6), (11, 10))
                self.assertIs(self.check("\n".join(turned)), puts, (place, other))

    def test_blanks_and_line_feeds(self):
        for told in SOME[:10]:
            text = supplement_text(told)
            self.refuses(text + "\n", "\n" + text, text + " ", " " + text, text.replace("\n", "\n\n"),
                         text.replace(" ", "  "),
                         text.replace("\n", " \n"), text.replace("\n", "\n "), text.upper(), text + text, text + "\t",
                         text.replace("\n", "\r\n"), text.replace("\n", ""), text.replace(" ", ""), text[:-1] + " ")

    def test_words(self):
        for old, wrong in WRONG.items():
            self.assertIn(old, TEXT)
            self.refuses(*[TEXT.replace(old, new, 1) for new in wrong])

    def test_what_another_text_tells(self):
        self.assertEqual(read_supplement(TEXT.replace("gone none", "gone 1 2"))[1], (1, 2))
        self.assertEqual(read_supplement(TEXT.replace("never also 0", "daily"))[2][0][1], tuple(range(30)))
        self.assertEqual(read_supplement(TEXT.replace("cody 0:03, ", ""))[2][0][2], (("bron", 25),))
        self.assertEqual(read_supplement(TEXT.replace("cuts none", "cuts station abel 1, train 1 199"))[3],
                         (("station", "abel", 1), ("train", 1, 199)))
        self.assertEqual(read_supplement(TEXT.replace("also 0", "also 0,29"))[2][0][1], (0, 29))
        self.assertEqual(read_supplement(TEXT.replace("strike 2 0", "strike 2 0\nstrike 9999 199"))[5][0],
                         ((2, 0), (9999, 199)))

    def test_any_values(self):
        self.refuses(*ODD, TEXT.encode("ascii"), [TEXT], LINES, tuple(LINES), MORE, "", "\n", "\n" * 20000, " " * 20000,
                     "supplement", "supplement\n", "supplement\ncalendar 0 7", "supplement\ncalendar 0 7\ngone none",
                     "supplement\ncalendar 0 7\ngone none\ncuts none",
                     "supplement\ncalendar 0 7\ngone none\ncuts none\nrows",
                     "supplement\ncalendar 0 7\ngone none\nrows\ncolumns", "calendar 0 7")

    def test_far_too_many_figures(self):
        for figures in ("9" * 5000, "0" * 5000, "1" * 20000, str(GREAT)):
            for old in ("calendar 3", "gone none", "3 never", "also 0", "0:03", "cody 0", "abel 0", "strike 2", "3 0",
                        "none"):
                self.assertIn(old, TEXT)
                self.refuses(TEXT.replace(old, old + figures), TEXT.replace(old, old[:-1] + figures))
            self.refuses(TEXT.replace("gone none", f"gone {figures}"),
                         TEXT.replace("cuts none", f"cuts train 1 {figures}"),
                         TEXT.replace("cuts none", f"cuts train {figures} 1"))

    def test_long_texts(self):
        with in_time(self):
            self.refuses("\n".join(LINES[:6] + ["put cody 0 first"] * 1000), "supplement\n" * 1500,
                         TEXT + "\nput 1 0" * 1500)
            text = "\n".join(LINES[:6] + [f"put cody {place % 200} first" for place in range(1000)] + LINES[8:])
            self.assertEqual(len(read_supplement(text)[4][1]), 1000)


class TestConventions(SupplementTexts):

    def test_functions_of_texts(self):
        for told in FORMAL + SOME[::25]:
            check_conventions(self, supplement_text, told=told)
            check_conventions(self, read_supplement, value=supplement_text(told))
        for value in ODD + (TEXT + "\n", MORE, TEXT.replace("gone none", "gone 1")):
            check_conventions(self, read_supplement, value=value)

    def test_drawn_forms(self):
        drawn = Random(1)
        for _ in range(200):
            heads = [(drawn.randint(1, 9999), drawn.randint(0, 199)) for _ in range(6)]
            rows = [(drawn.choice(NAMES + ("first", "behind", "put", "strike", "none")),
                     drawn.randint(0, 199)) for _ in range(6)]
            told = (CALENDAR, tuple(sorted({drawn.randint(1, 9999) for _ in range(3)})), (), (),
                    (tuple(sorted(set(rows[:2]))), tuple((head, drawn.choice(rows + [None])) for head in rows)),
                    (tuple(sorted(set(heads[:2]))), tuple((head, drawn.choice(heads + [None])) for head in heads)))
            self.assertEqual(read_supplement(supplement_text(told)), told)
            self.assertEqual(supplement_text(told), text_with(told))


if __name__ == "__main__":
    unittest.main()
