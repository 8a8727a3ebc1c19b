"""The interface: names, arguments, and the file in which each one is defined."""

import ast
import importlib
import inspect
import pathlib
import unittest

ROOT = pathlib.Path(__file__).resolve().parent.parent

INTERFACE = {
    "errors": {
        "RightsError": None, "InvalidSchema": "path", "CircularBut": "kind relation", "InvalidState": "index",
        "InvalidObject": "value", "InvalidUser": "value", "InvalidRelation": "relation", "InvalidKind": "kind",
        "InvalidNumber": "name", "InvalidChange": "index", "InvalidToken": "token", "InvalidTree": "path",
        "InvalidRules": "index", "InvalidText": "place", "TooLarge": "limit", "Mismatch": "name",
    },
    "schemas": {"check_schema": "schema", "depends_on": "schema kind relation", "strata": "schema"},
    "states": {
        "check_state": "schema state", "check_row": "schema row", "check": "schema state thing relation user",
        "who_has": "schema state thing relation", "rights_of": "schema state user", "named_users": "schema state",
    },
    "ranks": {
        "check_within": "schema state thing relation user depth",
        "depth_needed": "schema state thing relation user", "never_told": "schema state user",
        "calls_within": "schema state thing relation depth", "rank": "schema state thing relation user",
    },
    "papers": {
        "judge": "schema state user paper", "paper_for": "schema state thing relation user",
        "trimmed": "schema state user paper", "weight": "schema state thing relation user",
        "ways": "schema state thing relation user rounds",
    },
    "expansions": {
        "expand": "schema state thing relation", "unfold": "schema state thing relation", "is_in": "tree user",
        "places": "tree user", "pruned": "tree", "listed": "schema state thing relation",
        "things": "schema state user kind relation", "page": "schema state user kind relation size after",
        "compared": "schema state thing relation other other_relation",
    },
    "histories": {
        "snapshot": "schema state history token", "spans": "schema state history thing relation user",
        "answers": "schema state history kept token thing relation user",
        "sure_from": "schema state history kept thing relation user",
        "leaks": "schema state history kept token first last thing relation user",
        "closed_by": "schema state history kept first last thing relation user",
        "watch": "schema state history token kinds", "came_and_went": "schema state history one other user",
        "session": "schema state history kept reads",
    },
}


class InterfaceTest(unittest.TestCase):
    def test_names_and_arguments(self):
        for module, entries in INTERFACE.items():
            for name, arguments in entries.items():
                value = getattr(importlib.import_module("relatedrights." + module), name)
                if arguments is not None:
                    parameters = inspect.signature(value).parameters
                    self.assertEqual(list(parameters), arguments.split(), name)
                    for parameter in parameters.values():
                        self.assertEqual(parameter.kind, parameter.POSITIONAL_OR_KEYWORD, name)
                        self.assertIs(parameter.default, parameter.empty, name)

    def test_each_one_is_defined_in_its_file(self):
        for module, entries in INTERFACE.items():
            tree = ast.parse((ROOT / "relatedrights" / (module + ".py")).read_text(encoding="utf-8"))
            defined = [node.name for node in tree.body if isinstance(node, (ast.FunctionDef, ast.ClassDef))]
            self.assertEqual([name for name in entries if name not in defined], [])


if __name__ == "__main__":
    unittest.main()
