"""A shell: lines of words that make a bench, edit it, and ask it."""

from risingsheets.basics import read_number
from risingsheets.benches import Bench
from risingsheets.bounds import MAX_PRICE
from risingsheets.clocks import clock_text
from risingsheets.cutting import cost
from risingsheets.errors import BadText, NoStation, SheetError
from risingsheets.plans import calls_at, is_name, stations_of
from risingsheets.plantexts import calendar_text, read_plan
from risingsheets.supplements import MAX_COUNT, cuts_text, read_cuts

# What stands for a line feed in a line, and what is told of a line that is none.
LINE_END = " / "
WHAT = "what"


def split_cuts(lines):
    """The lines ahead of the cuts, and the cuts that the last line tells; all lines and () if it tells none."""
    word, _, told = lines[-1].partition(" ")
    if word != "cuts":
        return (lines, ())
    try:
        return (lines[:-1], read_cuts(told))
    except BadText:
        return (lines, ())


def bench_of(text):
    """The bench that the rest of a line tells."""
    lines, cuts = split_cuts(text.replace(LINE_END, "\n").split("\n"))
    return Bench(read_plan("\n".join(lines)), cuts)


def read_train_line(bench, line):
    """The train that a line tells for the calendar of the bench."""
    return read_plan(calendar_text(bench.plan[0]) + "\n" + line)[1][0]


def told_version(version):
    """What is told behind a step of the bench."""
    return f"version {version}"


def tell_add(bench, line):
    """Adds the train that a line tells."""
    return told_version(bench.add(read_train_line(bench, line)))


def tell_change(bench, line):
    """Changes the train that a line tells."""
    return told_version(bench.change(read_train_line(bench, line)))


def tell_drop(bench, number):
    """Drops the train with a number."""
    return told_version(bench.drop(number))


def tell_recut(bench, cuts):
    """Gives the bench other cuts."""
    return told_version(bench.recut(cuts))


def tell_undo(bench, _):
    """Takes back the last edit."""
    return told_version(bench.undo())


def tell_redo(bench, _):
    """Does again what was taken back last."""
    return told_version(bench.redo())


def tell_cuts(bench, _):
    """The cuts."""
    return cuts_text(bench.cuts)


def tell_cost(bench, price):
    """What the cuts cost."""
    return str(cost(bench.cuts, price))


def tell_heads(bench, _):
    """How many row heads and how many column heads there are."""
    _, _, rows, columns = bench.sheet
    return f"{len(rows)} {len(columns)}"


def tell_calls(bench, name):
    """The calls at a station."""
    if name not in stations_of(bench.plan):
        raise NoStation(name)
    return ", ".join([f"{clock_text(minute)} {number}" for minute, number, _ in calls_at(bench.plan, name)])


ANSWERS = {
    "add": tell_add, "change": tell_change, "drop": tell_drop, "recut": tell_recut, "undo": tell_undo,
    "redo": tell_redo, "cuts": tell_cuts, "cost": tell_cost, "heads": tell_heads, "calls": tell_calls,
}
WHOLE = ("undo", "redo", "cuts", "heads")


def read_price(text):
    """The price that text tells."""
    price = read_number(text, MAX_PRICE)
    if price == 0:
        raise BadText()
    return price


def read_rest(word, blank, rest):
    """What stands behind a word, as its answer takes it; BadText if it is none for this word."""
    if (blank == "") != (word in WHOLE):
        raise BadText()
    if word == "drop":
        return read_number(rest, MAX_COUNT)
    if word == "recut":
        return read_cuts(rest)
    if word == "cost":
        return read_price(rest)
    if word == "calls" and not is_name(rest):
        raise BadText()
    return rest


class Shell:
    """Says what comes of lines."""

    def __init__(self):
        self._bench = None

    def say(self, line):
        """The answer to a line, any value."""
        if not isinstance(line, str) or "\n" in line:
            return WHAT
        word, blank, rest = line.partition(" ")
        if word != "plan" and word not in ANSWERS:
            return WHAT
        if word != "plan" and self._bench is None:
            return "no bench"
        try:
            told = read_rest(word, blank, rest)
        except BadText:
            return WHAT
        try:
            return self._answer(word, told)
        except SheetError as error:
            return "error " + type(error).__name__

    def _answer(self, word, told):
        """The answer to a word and what stands behind it."""
        if word == "plan":
            self._bench = bench_of(told)
            return "ok"
        answer = ANSWERS[word]
        return answer(self._bench, told)
