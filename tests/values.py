"""Values of any kind, and calls of functions in all the ways that the document lets."""


def nested(depth):
    """A tuple within tuples."""
    value = ()
    for _ in range(depth):
        value = (value,)
    return value


GREAT = 10 ** 399 + 7

ODD = (
    None, True, False, -1, GREAT, -GREAT, "", "a b", "Abel", "3", "x" * 20000, "abel\nbron",
    [], [1], ["abel", 5], {}, {"abel": 5}, {1: {2: [3]}}, ((),), (None,), (True,), ([],), nested(20),
    (4, 3, 2, 1), ("abel", 5, 6), tuple(range(3999)),
)


def fresh(value):
    """An equal value of the same kinds throughout that shares no tuple, list or dict with value."""
    if isinstance(value, tuple):
        return tuple([fresh(item) for item in value])
    if isinstance(value, list):
        return [fresh(item) for item in value]
    if isinstance(value, dict):
        return {fresh(key): fresh(item) for key, item in value.items()}
    return value


def put(value, path, item):
    """The tuple value with item in the place that path tells, by an index for each level."""
    if not path:
        return item
    at = path[0]
    return value[:at] + (put(value[at], path[1:], item),) + value[at + 1:]


def plain(value):
    """Whether value has no other sequences than tuples and strings in it."""
    if isinstance(value, tuple):
        return all([plain(item) for item in value])
    return value is None or type(value) in (bool, int, str)


def outcome(function, *by_place, **by_name):
    """What a call returns or raises, in a form that tells True from 1 and a list from a tuple."""
    try:
        result = function(*by_place, **by_name)
    except ValueError as error:
        return ("raised", error.__class__.__name__, repr(vars(error)))
    return ("returned", plain(result), repr(result))


def check_told(case, expected, function, *arguments):
    """Checks what a call returns, with these arguments and with fresh ones; True is not 1 here."""
    with case.subTest(arguments=repr(arguments)[-300:]):
        case.assertEqual(repr(function(*arguments)), repr(expected))
        case.assertEqual(repr(function(*fresh(arguments))), repr(expected))


def check_conventions(case, function, **arguments):
    """Calls by place and by name, twice over, and checks what [A3] asks of the call and of its arguments."""
    before = repr(arguments)
    first = outcome(function, *arguments.values())
    with case.subTest(function=function.__name__, arguments=before[:200]):
        case.assertNotEqual(first[:2], ("returned", False))
        case.assertEqual(outcome(function, **arguments), first)
        backwards = {name: arguments[name] for name in reversed(list(arguments))}
        case.assertEqual(outcome(function, **backwards), first)
        case.assertEqual(outcome(function, *fresh(tuple(arguments.values()))), first)
        case.assertEqual(repr(arguments), before)
