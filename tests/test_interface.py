"""The interface: names, values, arguments, and the files in which they are defined."""

import importlib
import inspect
import unittest

from risingsheets import bounds, errors
from tests.values import ODD

BOUNDS = {
    "MAX_NAME": 12, "MAX_NUMBER": 9999, "MAX_MINUTE": 2879, "MAX_SPAN": 400, "MAX_TRAINS": 24, "MAX_STATIONS": 16,
    "MAX_CALLS": 200, "MAX_PRICE": 3, "MAX_COST": 3, "MAX_BLOCK": 4, "MAX_WIDE": 24, "MAX_HIGH": 40, "MAX_EDITS": 40,
    "BATCH": 12, "PAGE": 1000000,
}

ERRORS = {
    "BadPlan": "error", "BadCuts": "error", "BadText": None, "HasRing": "ring", "HasCuts": "found",
    "NeedsMore": "most", "TooWide": "place", "Unfit": None, "BadSupplement": None, "NoTrain": "given",
    "NoStation": "given", "BadBatch": None, "Rejected": "index", "TooManyEdits": None, "NothingToUndo": None,
    "NothingToRedo": None, "NoVersion": "given",
}

FUNCTIONS = {
    "plans": {
        "plan_error": ["value"], "stations_of": ["plan"], "calls_at": ["plan", "name"],
        "train_of": ["plan", "number"], "minute_of": ["plan", "mark"],
    },
    "days": {
        "class_of": ["calendar", "day"], "days_of_class": ["calendar", "kind"],
        "plain_expression": ["calendar", "days"], "expressed": ["calendar", "expression"],
    },
    "daytexts": {"days_text": ["calendar", "days"], "read_days": ["calendar", "value"]},
    "clocks": {"clock_text": ["minute"], "read_clock": ["value"]},
    "plantexts": {"plan_text": ["plan"], "read_plan": ["value"]},
    "threads": {
        "thread": ["plan", "kind", "name"], "cuts_error": ["plan", "value"], "heads": ["plan", "cuts"],
        "part": ["plan", "cuts", "kind", "head"], "place_of": ["plan", "cuts", "mark"],
        "ahead": ["plan", "cuts", "side"],
    },
    "rings": {
        "ring_error": ["plan", "value"], "gaps_of": ["plan", "ring"], "lets_stand": ["plan", "cuts", "ring"],
        "ring_of": ["plan", "cuts"],
    },
    "cutting": {
        "cost": ["cuts", "price"], "are_good": ["plan", "cuts"], "least_cuts": ["plan", "price", "most"],
    },
    "trees": {"tree": ["plan", "price", "most"], "tree_holds": ["plan", "price", "most", "value"]},
    "sheets": {
        "sheet_error": ["value"], "told_sheet": ["plan", "cuts"], "cells": ["sheet"],
        "plan_of_cells": ["calendar", "days", "names", "numbers", "minutes"], "told_cuts": ["sheet"],
    },
    "prices": {
        "least_row": ["stretches", "places"], "prices_hold": ["stretches", "places", "cost", "value"],
    },
    "gathering": {
        "group_at": ["sheet", "place", "size"], "gathering_error": ["sheet", "value"], "width": ["gathering"],
        "unfolded": ["sheet", "gathering"], "gathered": ["sheet"], "gathering_prices": ["sheet"],
    },
    "paging": {
        "paging_error": ["sheet", "gathering", "size", "value"], "run_on": ["sheet", "end"],
        "best_paging": ["sheet", "gathering", "size"], "paging_prices": ["sheet", "gathering", "size"],
    },
    "printing": {"edition_error": ["value"], "edition_text": ["edition"]},
    "reading": {"read_edition": ["value"]},
    "staying": {
        "staying": ["sheet", "plan", "cuts", "side"], "turned": ["sheet", "plan", "cuts", "side"],
        "kept": ["sheet", "plan", "cuts", "side"], "chains": ["sheet", "plan", "cuts", "side"],
        "chains_hold": ["sheet", "plan", "cuts", "side", "value"],
    },
    "supplements": {
        "following": ["sheet", "plan", "cuts"], "supplied": ["sheet", "value"], "supplement": ["sheet", "newer"],
        "supplement_text": ["told"], "read_supplement": ["value"],
    },
    "asks": {
        "trains_from": ["text", "start", "goal", "day"],
        "following_train": ["text", "start", "goal", "day", "minute"],
    },
    "joining": {
        "turned_plan": ["plan"], "turned_cuts": ["plan", "cuts"], "moved": ["plan", "by"],
        "together": ["plan", "other"], "only_trains": ["plan", "numbers"], "only_stations": ["plan", "names"],
        "ahead_of": ["plan", "minute"], "from_on": ["plan", "minute"],
    },
}

# For each class the arguments that it is made with, its methods with theirs, and its properties.
CLASSES = {
    "benches": ("Bench", ["plan", "cuts"], {
        "add": ["train"], "drop": ["number"], "change": ["train"], "recut": ["cuts"], "batch": ["edits"], "undo": [],
        "redo": [], "at": ["version"], "copy": [], "attempt": ["work"], "supplement_since": ["version"],
    }, ["plan", "cuts", "sheet", "version"]),
    "shells": ("Shell", [], {"say": ["line"]}, []),
}


class TestBounds(unittest.TestCase):

    def test_each_bound_has_its_value(self):
        for name, value in BOUNDS.items():
            with self.subTest(name=name):
                self.assertIs(type(getattr(bounds, name)), int)
                self.assertEqual(getattr(bounds, name), value)


class TestErrors(unittest.TestCase):

    def test_sheet_error_stands_directly_under_value_error(self):
        self.assertEqual(errors.SheetError.__bases__, (ValueError,))
        self.assertEqual(errors.SheetError.__module__, "risingsheets.errors")

    def test_each_other_error_stands_directly_under_sheet_error(self):
        for name in ERRORS:
            with self.subTest(name=name):
                made = getattr(errors, name)
                self.assertEqual(made.__bases__, (errors.SheetError,))
                self.assertEqual((made.__name__, made.__module__), (name, "risingsheets.errors"))

    def test_errors_with_an_argument_keep_it_as_it_was_passed(self):
        for name, kept in ERRORS.items():
            for value in ODD + (("train", 3), 7) if kept else ():
                with self.subTest(name=name, value=repr(value)[:80]):
                    made = getattr(errors, name)
                    self.assertIs(getattr(made(value), kept), value)
                    self.assertIs(getattr(made(**{kept: value}), kept), value)

    def test_errors_with_an_argument_are_not_made_without_it(self):
        for name, kept in ERRORS.items():
            if kept:
                with self.subTest(name=name):
                    self.assertRaises(TypeError, getattr(errors, name))

    def test_each_error_is_none_of_the_others(self):
        for name, kept in ERRORS.items():
            error = getattr(errors, name)(*([7] if kept else []))
            self.assertIsInstance(error, errors.SheetError)
            self.assertIsInstance(error, ValueError)
            self.assertEqual([other for other in ERRORS if isinstance(error, getattr(errors, other))], [name])

    def test_errors_keep_nothing_else(self):
        for name, kept in ERRORS.items():
            self.assertEqual(vars(getattr(errors, name)(*([7] if kept else []))), {kept: 7} if kept else {})

    def test_errors_without_arguments_are_raised_and_caught(self):
        for name, kept in ERRORS.items():
            if kept is None:
                with self.subTest(name=name), self.assertRaises(ValueError) as caught:
                    raise getattr(errors, name)()
                self.assertIs(type(caught.exception), getattr(errors, name))


class TestFunctions(unittest.TestCase):

    def test_functions_are_defined_in_their_files_with_the_written_arguments(self):
        for module, functions in FUNCTIONS.items():
            for name, arguments in functions.items():
                with self.subTest(module=module, name=name):
                    function = getattr(importlib.import_module(f"risingsheets.{module}"), name)
                    self.assertEqual(function.__module__, f"risingsheets.{module}")
                    self.assertEqual(list(inspect.signature(function).parameters), arguments)


class TestClasses(unittest.TestCase):

    def test_classes_are_defined_in_their_files(self):
        for module, (name, arguments, _, _) in CLASSES.items():
            made = getattr(importlib.import_module(f"risingsheets.{module}"), name)
            self.assertEqual((made.__module__, made.__bases__), (f"risingsheets.{module}", (object,)))
            self.assertEqual(list(inspect.signature(made).parameters), arguments)

    def test_methods_and_properties_are_defined_in_the_class_itself(self):
        for module, (name, _, methods, properties) in CLASSES.items():
            held = vars(getattr(importlib.import_module(f"risingsheets.{module}"), name))
            for method, arguments in methods.items():
                with self.subTest(name=name, method=method):
                    self.assertEqual(list(inspect.signature(held[method]).parameters), ["self"] + arguments)
            for each in properties:
                with self.subTest(name=name, property=each):
                    self.assertIsInstance(held[each], property)
                    self.assertIsNone(held[each].fset)

    def test_what_signs_stand_for_is_defined_in_the_class_itself(self):
        held = vars(importlib.import_module("risingsheets.benches").Bench)
        for name in ("__init__", "__len__", "__getitem__", "__iter__", "__eq__", "__ne__"):
            self.assertIn(name, held)


if __name__ == "__main__":
    unittest.main()
