"""The rules of ../shared/LANGUAGE.md that a look at the files of the package can check."""

import ast
import builtins
import unittest
from pathlib import Path

from tests.loops import changing_loops

PACKAGE = Path(__file__).parent.parent / "risingsheets"
FILES = sorted(PACKAGE.rglob("*.py"))

BUILTINS = """len range enumerate zip min max sum abs sorted reversed int str bool list tuple dict set isinstance ord
repr any all divmod map iter property type ValueError""".split()

METHODS = """append clear copy count endswith extend find get index insert isalnum isalpha isdigit islower isspace
isupper items join keys ljust lower lstrip partition pop remove replace reverse rfind rjust rpartition rsplit rstrip
setdefault split splitlines startswith strip update upper values zfill bit_length add discard""".split()

BARRED_WORDS = """type typing typing_extensions enum Enum IntEnum StrEnum Flag IntFlag Generic Protocol ABC ABCMeta
namedtuple NamedTuple TypedDict TYPE_CHECKING abstractmethod register mro elements open input law
version_info""".split()

BARRED_NODES = (
    ast.GeneratorExp, ast.Yield, ast.YieldFrom, ast.Await, ast.AsyncFunctionDef, ast.AsyncFor, ast.AsyncWith,
    ast.Global, ast.Div, ast.MatMult, ast.Import, ast.TryStar, ast.AnnAssign,
)

# A function of rows, others and box with a loop in its second row that may change what it goes over.
CHANGING_LOOPS = (
    "for row in rows:\n        rows.append(row)",
    "for row in rows:\n        if row:\n            rows.remove(row)\n            return row",
    "for place, row in enumerate(rows):\n        rows[place] = 1",
    "for row in rows:\n        for other in others:\n            del rows[0]",
    "for row, other in zip(others, reversed(rows)):\n        rows.pop()",
    "for key, row in rows.items():\n        rows[key] = 1",
    "for key in rows:\n        rows[key] += 1",
    "for row in rows:\n        rows += [1]",
    "for row in box.rows:\n        box.rows.clear()",
    "for row in rows[0]:\n        rows[0].append(row)",
    "for row in rows if others else others:\n        others.append(row)",
    "for row in others or rows:\n        rows.append(row)",
    "told = [rows.pop() for row in rows]",
    "for row in rows:\n        others.append(row)\n    rows = others",
    "for row in rows:\n        others.append(row)\n    others = rows",
    "for row in rows:\n        box.kept.append(row)\n    box.kept = rows",
    "for row in rows:\n        told.append(row)\n    told = rows\n    told = others",
    "for row in rows:\n        others.append(row)\n    told = others\n    rows = told",
    "for row in rows:\n        others.append(row)\n    rows, told = others, rows",
    "for row in rows:\n        others.append(row)\n    rows = others if box else []",
    "for row in rows:\n        others[0].append(row)\n    rows = others[0]",
    "for row in rows:\n        others.append(row)\n    box.append(others)\n    rows = box[-1]",
    "for row in rows:\n        others.append(row)\n    rows = box.setdefault(1, others)",
    "for row in rows:\n        others.append(row)\n    for rows in [others]:\n        box = 1",
    "for row in rows:\n        others.append(row)\n    box.extend([others])\n    rows = box.pop()",
    "for row in rows:\n        others.append(row)\n    box += [others]\n    rows = box[0]",
    "for row in rows[0]:\n        others[0].append(row)\n    others = rows",
    "for row in rows[0]:\n        others[0].append(row)\n    others = list(rows)",
    "for row in rows:\n        heappush(rows, row)",
)

# The like, where the loop goes over a list of its own, or changes only others.
KEEPING_LOOPS = (
    "for row in list(rows):\n        rows.append(row)",
    "for row in list(rows):\n        others.append(row)\n    rows = others",
    "for row in sorted(rows):\n        others.append(row)\n    rows = others",
    "for row in [row for row in rows]:\n        others.append(row)\n    rows = others",
    "for row in rows:\n        others.append(row)\n    rows = list(others)",
    "for row in rows:\n        others.append(rows)",
    "for row in rows:\n        box.kept.append(row)\n    box.told = rows",
    "for place in range(len(rows)):\n        rows[place] = 1",
    "while rows:\n        rows.pop()",
    "for row in rows:\n        row.append(1)",
    "told = [others.pop() for row in rows]",
)


def read(file):
    return file.read_text(encoding="ascii")


def nodes_of(file):
    return list(ast.walk(ast.parse(read(file))))


def imports_of(file):
    """The modules of the package that a file imports from."""
    return [node.module for node in nodes_of(file) if isinstance(node, ast.ImportFrom)]


class TestFiles(unittest.TestCase):

    def test_the_package_holds_files_of_code_alone(self):
        held = [path for path in PACKAGE.rglob("*") if "__pycache__" not in path.parts]
        self.assertEqual(sorted(path for path in held if path.is_file()), FILES)
        self.assertIn(PACKAGE / "__init__.py", FILES)
        self.assertEqual([path.name for path in FILES if path.name != path.name.lower()], [])

    def test_sizes_and_signs(self):
        for file in FILES:
            lines = read(file).split("\n")
            self.assertLessEqual(len(lines), 399, file)
            for line in lines:
                self.assertLessEqual(len(line), 120, (file, line))
                self.assertTrue(all(" " <= sign <= "~" for sign in line), (file, line))

    def test_sizes_of_functions(self):
        for file in FILES:
            for node in nodes_of(file):
                if isinstance(node, ast.FunctionDef):
                    self.assertLessEqual(node.end_lineno - node.lineno + 1, 40, (file, node.name))


class TestImports(unittest.TestCase):

    def test_imports_are_from_files_of_the_package(self):
        names = ["risingsheets." + file.stem for file in FILES]
        for file in FILES:
            for node in nodes_of(file):
                if isinstance(node, ast.ImportFrom):
                    self.assertIn(node.module, names, file)
                    self.assertEqual(node.level, 0, file)
                    self.assertEqual([name.asname for name in node.names if name.asname], [], file)

    def test_names_are_imported_from_the_file_that_defines_them(self):
        for file in FILES:
            for node in nodes_of(file):
                if isinstance(node, ast.ImportFrom):
                    source = ast.parse(read(PACKAGE / (node.module.split(".")[1] + ".py")))
                    made = [step.name for step in source.body if isinstance(step, (ast.FunctionDef, ast.ClassDef))]
                    made += [step.targets[0].id for step in source.body if isinstance(step, ast.Assign)]
                    for name in node.names:
                        self.assertIn(name.name, made, file)

    def test_no_two_files_import_from_each_other(self):
        left = {"risingsheets." + file.stem: imports_of(file) for file in FILES}
        while left:
            free = [name for name in left if not [module for module in left[name] if module in left]]
            self.assertTrue(free, left)
            for name in free:
                del left[name]

    def test_no_import_is_idle(self):
        for file in FILES:
            used = [node.id for node in nodes_of(file) if isinstance(node, ast.Name)]
            for node in nodes_of(file):
                if isinstance(node, ast.ImportFrom):
                    for name in node.names:
                        self.assertIn(name.name, used, file)


class TestCode(unittest.TestCase):

    def test_no_barred_kind_of_code(self):
        for file in FILES:
            for node in nodes_of(file):
                self.assertNotIsInstance(node, BARRED_NODES, file)
                for decorator in getattr(node, "decorator_list", []):
                    self.assertIn(ast.unparse(decorator), ("property", "staticmethod", "classmethod"), file)
                if isinstance(node, ast.Constant):
                    self.assertNotIsInstance(node.value, (float, complex, bytes), file)

    def test_module_level_holds_plain_things(self):
        allowed = (ast.ImportFrom, ast.FunctionDef, ast.ClassDef, ast.Assign)
        for file in FILES:
            body = ast.parse(read(file)).body
            self.assertIsNotNone(ast.get_docstring(ast.parse(read(file))), file)
            for step in body[1:]:
                self.assertIsInstance(step, allowed, file)

    def test_strings(self):
        for file in FILES:
            for node in nodes_of(file):
                if isinstance(node, ast.Constant) and isinstance(node.value, str):
                    self.assertNotIn("%", node.value, file)
                if isinstance(node, ast.JoinedStr):
                    self.assertNotIn("%", ast.get_source_segment(read(file), node), file)

    def test_builtins_and_names(self):
        for file in FILES:
            for node in nodes_of(file):
                if isinstance(node, ast.Name):
                    if node.id in dir(builtins):
                        self.assertIn(node.id, BUILTINS, file)
                        self.assertIsInstance(node.ctx, ast.Load, file)
                    self.assertNotIn(node.id, [word for word in BARRED_WORDS if word != "type"], file)
                if isinstance(node, (ast.FunctionDef, ast.ClassDef)):
                    self.assertNotIn(node.name, dir(builtins), file)
                if isinstance(node, ast.arg):
                    self.assertNotIn(node.arg, dir(builtins) + BARRED_WORDS, file)

    def test_type_stands_for_the_name_of_a_class_alone(self):
        for file in FILES:
            nodes = nodes_of(file)
            named = [node.value.func for node in nodes if isinstance(node, ast.Attribute) and node.attr == "__name__"]
            self.assertEqual([node for node in nodes if isinstance(node, ast.Name) and node.id == "type"], named, file)
            self.assertNotIn("(type)", read(file))

    def test_iter_stands_in_iter_methods_alone(self):
        for file in FILES:
            nodes = nodes_of(file)
            steps = [node.body for node in nodes if isinstance(node, ast.FunctionDef) and node.name == "__iter__"]
            for body in steps:
                self.assertEqual(len(body), 1, file)
                self.assertRegex(ast.unparse(body[0]), r"return iter\(self\.[a-z_]+\)")
            self.assertEqual(len([node for node in nodes if isinstance(node, ast.Name) and node.id == "iter"]),
                             len(steps))

    def test_own_errors_alone_are_caught(self):
        made = [node.name for node in nodes_of(PACKAGE / "errors.py") if isinstance(node, ast.ClassDef)]
        for file in FILES:
            for node in nodes_of(file):
                if isinstance(node, ast.ExceptHandler):
                    self.assertIn(ast.unparse(node.type), made, file)
                if isinstance(node, ast.Raise) and node.exc is not None:
                    self.assertIn(ast.unparse(node.exc.func), made, file)

    def test_methods_that_have_the_name_of_a_builtin_values_method(self):
        own = [node.name for file in FILES for made in nodes_of(file) if isinstance(made, ast.ClassDef)
               for node in made.body if isinstance(node, ast.FunctionDef)]
        # With a method add or copy of its own the package calls none of sets, lists and dicts.
        for file in FILES:
            for node in nodes_of(file):
                if isinstance(node, ast.Call) and isinstance(node.func, ast.Attribute):
                    if node.func.attr in ("add", "discard", "copy", "sort") and file.stem not in ("benches", "shells"):
                        self.assertNotIn(node.func.attr, own + ["sort"], file)

    def test_no_property_has_the_name_of_an_attribute(self):
        told = [node.name for file in FILES for node in nodes_of(file) if isinstance(node, ast.FunctionDef)
                and [ast.unparse(decorator) for decorator in node.decorator_list] == ["property"]]
        self.assertEqual(sorted(told), ["cuts", "plan", "sheet", "version"])
        for file in FILES:
            for node in nodes_of(file):
                if isinstance(node, ast.Attribute) and isinstance(node.ctx, ast.Store):
                    self.assertNotIn(node.attr, told, file)

    def test_no_name_of_an_import_or_a_class_is_given_to_a_value(self):
        for file in FILES:
            taken = [node.name for node in nodes_of(file) if isinstance(node, ast.ClassDef)]
            taken += [name.name for node in nodes_of(file) if isinstance(node, ast.ImportFrom) for name in node.names]
            for node in nodes_of(file):
                if isinstance(node, ast.Name) and isinstance(node.ctx, ast.Store):
                    self.assertNotIn(node.id, taken, file)
                if isinstance(node, ast.arg):
                    self.assertNotIn(node.arg, taken, file)

    def test_names_are_bound_once_in_a_file(self):
        for file in FILES:
            body = ast.parse(read(file)).body
            names = [step.name for step in body if isinstance(step, (ast.FunctionDef, ast.ClassDef))]
            names += [target.id for step in body if isinstance(step, ast.Assign) for target in step.targets]
            names += [name.name for step in body if isinstance(step, ast.ImportFrom) for name in step.names]
            self.assertEqual(sorted(names), sorted(set(names)), file)

    def test_sets_are_not_passed_on(self):
        for file in FILES:
            for node in nodes_of(file):
                if isinstance(node, (ast.For, ast.comprehension)):
                    self.assertNotIsInstance(node.iter, (ast.Set, ast.SetComp), file)
                    self.assertFalse(isinstance(node.iter, ast.Call) and ast.unparse(node.iter.func) == "set", file)
                if isinstance(node, ast.Return):
                    self.assertNotIsInstance(node.value, (ast.Set, ast.SetComp), file)

    def test_attributes_and_methods_have_names_of_their_own(self):
        for file in FILES:
            for made in nodes_of(file):
                if isinstance(made, ast.ClassDef):
                    methods = [step.name for step in made.body if isinstance(step, ast.FunctionDef)]
                    kept = [node.attr for node in ast.walk(made)
                            if isinstance(node, ast.Attribute) and isinstance(node.ctx, ast.Store)]
                    self.assertEqual(sorted(methods), sorted(set(methods)), file)
                    self.assertEqual([name for name in methods if name in kept], [], file)

    def test_methods_of_builtin_values(self):
        own = [node.name for file in FILES for node in nodes_of(file) if isinstance(node, ast.FunctionDef)]
        for file in FILES:
            for node in nodes_of(file):
                if isinstance(node, ast.Call) and isinstance(node.func, ast.Attribute):
                    self.assertIn(node.func.attr, METHODS + own, file)

    def test_no_loop_changes_what_it_goes_over(self):
        for file in FILES:
            self.assertEqual(changing_loops(read(file)), [], file)

    def test_loops_that_change_what_they_go_over_are_found(self):
        for loop in CHANGING_LOOPS:
            self.assertEqual(changing_loops("def told(rows, others, box):\n    " + loop + "\n"), [2], loop)
        for loop in KEEPING_LOOPS:
            self.assertEqual(changing_loops("def told(rows, others, box):\n    " + loop + "\n"), [], loop)

    def test_is_stands_beside_none_true_and_false(self):
        for file in FILES:
            for node in nodes_of(file):
                if isinstance(node, ast.Compare) and isinstance(node.ops[0], (ast.Is, ast.IsNot)):
                    self.assertIsInstance(node.comparators[0], ast.Constant, file)


if __name__ == "__main__":
    unittest.main()
