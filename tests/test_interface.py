"""Tests of the whole interface: each name with its arguments, and what holds of the whole package."""

import ast
import importlib
import inspect
import pathlib
import unittest

import ordershown

# Each module with its functions and classes; a class with its methods, None for a property.
INTERFACE = {
    "errors": {
        "OrderError": {},
        "HistoryError": {},
        "LineError": {},
        "ScheduleError": {},
        "LockError": {},
        "ManagerError": {},
    },
    "objects": {
        "first_state": ["kind"],
        "operations_of_kind": ["kind"],
        "step": ["kind", "state", "operation", "arguments"],
        "is_possible": ["kind", "operation", "result"],
    },
    "histories": {
        "history": ["objects", "events"],
        "operations": ["some_history"],
        "part": ["some_history", "name"],
        "beginning": ["some_history", "many"],
        "without": ["some_history", "numbers"],
        "renamed": ["some_history", "names"],
    },
    "historytext": {"format_history": ["some_history"], "read_history": ["text"]},
    "orders": {
        "is_ahead": ["some_history", "model", "number", "other"],
        "results": ["some_history", "row"],
        "is_order": ["some_history", "model", "row"],
    },
    "tables": {
        "find": ["some_history", "model"],
        "fits": ["some_history", "model"],
        "told_table": ["some_history", "model"],
        "is_closed": ["some_history", "model", "table"],
    },
    "parts": {
        "woven": ["some_history", "orders"],
        "is_coherent": ["some_history"],
        "first_break": ["some_history"],
        "core": ["some_history", "model"],
    },
    "endings": {
        "serial": ["some_history", "order"],
        "is_serial": ["some_history"],
        "finished": ["some_history", "model"],
    },
    "watchers": {
        "Watcher": {
            "__init__": ["objects"],
            "history": None,
            "fits": None,
            "live": None,
            "see": ["event"],
            "undo": [],
            "branch": [],
            "__len__": [],
            "__iter__": [],
            "__eq__": ["other"],
        },
    },
    "schedules": {
        "format_schedule": ["schedule"],
        "read_schedule": ["text"],
        "transactions_of": ["schedule"],
        "without_aborted": ["schedule"],
    },
    "conflicts": {
        "conflict_graph": ["schedule"],
        "serial_order": ["schedule"],
        "ring_of": ["schedule"],
        "order_of": ["numbers", "pairs"],
        "ring_in": ["pairs"],
        "serial_schedule": ["schedule", "order"],
        "are_conflict_equivalent": ["schedule", "other"],
        "view_of": ["schedule"],
        "view_order": ["schedule"],
        "are_view_equivalent": ["schedule", "other"],
    },
    "recovery": {"breaks": ["schedule"]},
    "locks": {
        "LockTable": {
            "__init__": [],
            "ask": ["t", "item", "mode"],
            "release": ["t"],
            "holders": ["item"],
            "queue": ["item"],
            "waiting": ["t"],
            "pairs": [],
            "deadlock": [],
        },
    },
    "runs": {"locked_run": ["scripts", "weaving"], "serial_run": ["scripts", "order"]},
    "snapshots": {
        "snapshot_run": ["scripts", "weaving"],
        "dependencies": ["scripts", "weaving"],
        "skew": ["scripts", "weaving"],
    },
    "managers": {
        "Manager": {
            "__init__": [],
            "read": ["t", "item"],
            "write": ["t", "item", "number"],
            "commit": ["t"],
            "abort": ["t"],
            "history": None,
            "log": None,
            "contents": None,
            "ended": None,
            "deadlock": [],
            "branch": [],
            "__len__": [],
            "__eq__": ["other"],
        },
        "replayed": ["log"],
    },
    "claims": {
        "about_order": ["schedule"],
        "about_breaks": ["schedule"],
        "about_run": ["scripts", "weaving"],
        "about_skew": ["scripts", "weaving"],
        "judge": ["claim"],
        "judge_all": ["claims"],
    },
}

FOLDER = pathlib.Path(ordershown.__file__).parent


def arguments_of(function):
    return list(inspect.signature(function).parameters)


class InterfaceTest(unittest.TestCase):
    def test_each_name_stands_in_its_module(self):
        for module, names in INTERFACE.items():
            tree = ast.parse((FOLDER / f"{module}.py").read_text())
            defined = [node.name for node in tree.body if isinstance(node, (ast.FunctionDef, ast.ClassDef))]
            for name in names:
                with self.subTest(module=module, name=name):
                    self.assertEqual(defined.count(name), 1)

    def test_each_function_has_its_arguments(self):
        for module, names in INTERFACE.items():
            made = importlib.import_module(f"ordershown.{module}")
            for name, told in names.items():
                if isinstance(told, list):
                    with self.subTest(module=module, name=name):
                        self.assertEqual(arguments_of(getattr(made, name)), told)

    def test_each_class_has_its_methods_and_properties(self):
        for module, names in INTERFACE.items():
            made = importlib.import_module(f"ordershown.{module}")
            for name, told in names.items():
                if isinstance(told, dict):
                    self.check_class(getattr(made, name), told)

    def check_class(self, made, told):
        for name, arguments in told.items():
            with self.subTest(made=made.__name__, name=name):
                self.assertIn(name, vars(made))
                if arguments is None:
                    self.assertIs(type(vars(made)[name]), property)
                    self.assertIsNone(vars(made)[name].fset)
                else:
                    self.assertEqual(arguments_of(vars(made)[name])[1:], arguments)


class PackageTest(unittest.TestCase):
    def test_nothing_but_the_package_is_imported(self):
        for path in sorted(FOLDER.glob("*.py")):
            for node in ast.walk(ast.parse(path.read_text())):
                with self.subTest(file=path.name):
                    self.assertNotIsInstance(node, ast.Import)
                    if isinstance(node, ast.ImportFrom):
                        self.assertTrue(node.module.startswith("ordershown."))

    def test_the_folder_holds_files_of_the_package_alone(self):
        found = sorted(path.name for path in FOLDER.iterdir() if path.name != "__pycache__")
        self.assertIn("__init__.py", found)
        for name in found:
            with self.subTest(name=name):
                self.assertTrue(name.endswith(".py"))
                self.assertFalse(name.startswith("test"))


if __name__ == "__main__":
    unittest.main()
