"""Plans and cuts that are drawn: each seed draws the same ones again, so a test that fails can be run again."""

from random import Random

CALENDAR = (3, 30, (4, 11))
NAMES = tuple(letter * 4 for letter in "abcdefghijklmnop")


def plan_of(*rows):
    """A plan with a train for each row of calls, numbered from 1 on."""
    return (CALENDAR, tuple((place + 1, (0,), tuple(calls)) for place, calls in enumerate(rows)))


def drawn_plan(seed, trains, stations, calls, span, again=True):
    """A plan with so many trains, at most so many stations, so many calls, at minutes below span.

    With again a train can call at a station more than once."""
    drawn = Random(seed)
    sizes = [1] * trains
    for _ in range(min(calls, trains * span) - trains):
        sizes[drawn.choice([place for place in range(trains) if sizes[place] < span])] += 1
    rows = []
    for size in sizes:
        minutes = sorted(drawn.sample(range(span), size))
        if again:
            names = [drawn.choice(NAMES[:stations]) for _ in minutes]
        else:
            names = drawn.sample(NAMES[:stations], size)
        rows.append(tuple(zip(names, minutes)))
    numbers = sorted(drawn.sample(range(1, 30), trains))
    return (CALENDAR, tuple((number, (0, 7), calls) for number, calls in zip(numbers, rows)))


def small_plans(many, calls=7):
    """Drawn plans with few calls, of one train and of several, many calls at one minute among them."""
    return [drawn_plan(seed, 1 + seed % 4, 1 + seed // 4 % 4, max(4, calls - seed % 3), (7, 12, 60)[seed % 3])
            for seed in range(many)]


def cuts_of_plan(plan):
    """All cuts of a plan, ascending."""
    sizes = {}
    for number, _, calls in plan[1]:
        for name, _ in calls:
            for key in (("station", name), ("train", number)):
                sizes[key] = sizes.get(key, 0) + 1
    return tuple(sorted((kind, name, gap) for (kind, name), size in sizes.items() for gap in range(1, size)))


def drawn_cuts(seed, plan, share):
    """Of the cuts of a plan each with a chance of share in 10."""
    drawn = Random(seed)
    return tuple(cut for cut in cuts_of_plan(plan) if drawn.randrange(10) < share)


def some_cuts(plan, seed):
    """No cuts, all cuts, and drawn ones."""
    return [(), cuts_of_plan(plan)] + [drawn_cuts(seed, plan, share) for share in (1, 3, 6)]
