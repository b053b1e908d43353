"""The interface: names, values, arguments, and the files in which they are defined."""

import importlib
import inspect
import unittest

from risingsheets import bounds, errors
from tests.values import ODD

BOUNDS = {
    "MAX_NAME": 12, "MAX_NUMBER": 9999, "MAX_MINUTE": 2879, "MAX_SPAN": 400, "MAX_TRAINS": 24, "MAX_STATIONS": 16,
    "MAX_CALLS": 200, "MAX_PRICE": 3, "MAX_COST": 3, "MAX_BLOCK": 4, "MAX_WIDE": 24, "MAX_HIGH": 40, "MAX_EDITS": 40,
    "BATCH": 12, "PAGE": 1000000,
}

ERRORS = {
    "BadPlan": "error", "BadCuts": "error", "BadText": None, "HasRing": "ring", "HasCuts": "found",
    "NeedsMore": "most", "TooWide": "place", "Unfit": None, "BadSupplement": None, "NoTrain": "given",
    "NoStation": "given", "BadBatch": None, "Rejected": "index", "TooManyEdits": None, "NothingToUndo": None,
    "NothingToRedo": None, "NoVersion": "given",
}

FUNCTIONS = {
    "plans": {
        "plan_error": ["value"], "stations_of": ["plan"], "calls_at": ["plan", "name"],
        "train_of": ["plan", "number"], "minute_of": ["plan", "mark"],
    },
    "days": {
        "class_of": ["calendar", "day"], "days_of_class": ["calendar", "kind"],
        "plain_expression": ["calendar", "days"], "expressed": ["calendar", "expression"],
    },
    "daytexts": {"days_text": ["calendar", "days"], "read_days": ["calendar", "value"]},
    "clocks": {"clock_text": ["minute"], "read_clock": ["value"]},
    "plantexts": {"plan_text": ["plan"], "read_plan": ["value"]},
    "threads": {
        "thread": ["plan", "kind", "name"], "cuts_error": ["plan", "value"], "heads": ["plan", "cuts"],
        "part": ["plan", "cuts", "kind", "head"], "place_of": ["plan", "cuts", "mark"],
        "ahead": ["plan", "cuts", "side"],
    },
    "rings": {
        "ring_error": ["plan", "value"], "gaps_of": ["plan", "ring"], "lets_stand": ["plan", "cuts", "ring"],
        "ring_of": ["plan", "cuts"],
    },
    "cutting": {
        "cost": ["cuts", "price"], "are_good": ["plan", "cuts"], "least_cuts": ["plan", "price", "most"],
    },
    "trees": {"tree": ["plan", "price", "most"], "tree_holds": ["plan", "price", "most", "value"]},
    "sheets": {
        "sheet_error": ["value"], "told_sheet": ["plan", "cuts"], "cells": ["sheet"],
        "plan_of_cells": ["calendar", "days", "names", "numbers", "minutes"], "told_cuts": ["sheet"],
    },
    "prices": {
        "least_row": ["stretches", "places"], "prices_hold": ["stretches", "places", "cost", "value"],
    },
    "gathering": {
        "group_at": ["sheet", "place", "size"], "gathering_error": ["sheet", "value"], "width": ["gathering"],
        "unfolded": ["sheet", "gathering"], "gathered": ["sheet"], "gathering_prices": ["sheet"],
    },
    "paging": {
        "paging_error": ["sheet", "gathering", "size", "value"], "run_on": ["sheet", "end"],
        "best_paging": ["sheet", "gathering", "size"], "paging_prices": ["sheet", "gathering", "size"],
    },
    "printing": {"edition_error": ["value"], "edition_text": ["edition"]},
    "reading": {"read_edition": ["value"]},
    "staying": {
        "staying": ["sheet", "plan", "cuts", "side"], "turned": ["sheet", "plan", "cuts", "side"],
        "kept": ["sheet", "plan", "cuts", "side"], "chains": ["sheet", "plan", "cuts", "side"],
        "chains_hold": ["sheet", "plan", "cuts", "side", "value"],
    },
    "supplements": {
        "following": ["sheet", "plan", "cuts"], "supplied": ["sheet", "value"], "supplement": ["sheet", "newer"],
        "supplement_text": ["told"], "read_supplement": ["value"],
    },
}


class TestBounds(unittest.TestCase):

    def test_each_bound_has_its_value(self):
        for name, value in BOUNDS.items():
            with self.subTest(name=name):
                self.assertIs(type(getattr(bounds, name)), int)
                self.assertEqual(getattr(bounds, name), value)


class TestErrors(unittest.TestCase):

    def test_sheet_error_stands_directly_under_value_error(self):
        self.assertEqual(errors.SheetError.__bases__, (ValueError,))
        self.assertEqual(errors.SheetError.__module__, "risingsheets.errors")

    def test_each_other_error_stands_directly_under_sheet_error(self):
        for name in ERRORS:
            with self.subTest(name=name):
                made = getattr(errors, name)
                self.assertEqual(made.__bases__, (errors.SheetError,))
                self.assertEqual((made.__name__, made.__module__), (name, "risingsheets.errors"))

    def test_errors_with_an_argument_keep_it_as_it_was_passed(self):
        for name, kept in ERRORS.items():
            for value in ODD + (("train", 3), 7) if kept else ():
                with self.subTest(name=name, value=repr(value)[:80]):
                    made = getattr(errors, name)
                    self.assertIs(getattr(made(value), kept), value)
                    self.assertIs(getattr(made(**{kept: value}), kept), value)

    def test_errors_with_an_argument_are_not_made_without_it(self):
        for name, kept in ERRORS.items():
            if kept:
                with self.subTest(name=name):
                    self.assertRaises(TypeError, getattr(errors, name))

    def test_errors_without_arguments_are_raised_and_caught(self):
        for name, kept in ERRORS.items():
            if kept is None:
                with self.subTest(name=name), self.assertRaises(ValueError) as caught:
                    raise getattr(errors, name)()
                self.assertIs(type(caught.exception), getattr(errors, name))


class TestFunctions(unittest.TestCase):

    def test_functions_are_defined_in_their_files_with_the_written_arguments(self):
        for module, functions in FUNCTIONS.items():
            for name, arguments in functions.items():
                with self.subTest(module=module, name=name):
                    function = getattr(importlib.import_module(f"risingsheets.{module}"), name)
                    self.assertEqual(function.__module__, f"risingsheets.{module}")
                    self.assertEqual(list(inspect.signature(function).parameters), arguments)


if __name__ == "__main__":
    unittest.main()
