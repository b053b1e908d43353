"""Runs the examples of the document, as they stand there, from a text that holds nothing else."""

import ast
from pathlib import Path

from risingsheets.errors import SheetError

PROMPT = ">>> "


def examples(name):
    """The pairs of the code of an example and of what the document shows for it, "" where it shows nothing."""
    told = []
    for line in (Path(__file__).parent / name).read_text(encoding="ascii").splitlines():
        if line.startswith(PROMPT):
            told.append([line[len(PROMPT):], ""])
        else:
            told[-1][1] += line
    return [tuple(pair) for pair in told]


def shown(code, names):
    """What the document has to show for a line of code; names are those that stand, and grow."""
    step = ast.parse(code).body[0]
    if not isinstance(step, ast.Expr):
        exec(code, names)
        return ""
    try:
        return repr(eval(code, names))
    except SheetError as error:
        kept = ", ".join([repr(item) for item in vars(error).values()])
        return f"raises {error.__class__.__name__}({kept})"


def check_examples(case, name):
    """Fails the test case for each example of the text that shows something else."""
    names = {}
    pairs = examples(name)
    case.assertTrue(pairs)
    for code, expected in pairs:
        with case.subTest(code=code):
            case.assertEqual(shown(code, names), expected)
