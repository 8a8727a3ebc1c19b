"""The interface: names, arguments, and the file in which each one is defined."""

import ast
import importlib
import inspect
import pathlib
import unittest

ROOT = pathlib.Path(__file__).resolve().parent.parent

INTERFACE = {
    "errors": {
        "RightsError": None, "InvalidSchema": "path", "CircularBut": "kind relation", "InvalidState": "index",
        "InvalidObject": "value", "InvalidUser": "value", "InvalidRelation": "relation", "InvalidKind": "kind",
        "InvalidNumber": "name", "InvalidChange": "index", "InvalidToken": "token", "InvalidTree": "path",
        "InvalidRules": "index", "InvalidText": "place", "TooLarge": "limit", "Mismatch": "name",
    },
    "schemas": {"check_schema": "schema", "depends_on": "schema kind relation", "strata": "schema"},
    "states": {
        "check_state": "schema state", "check_row": "schema row", "check": "schema state thing relation user",
        "who_has": "schema state thing relation", "rights_of": "schema state user", "named_users": "schema state",
    },
    "ranks": {
        "check_within": "schema state thing relation user depth",
        "depth_needed": "schema state thing relation user", "never_told": "schema state user",
        "calls_within": "schema state thing relation depth", "rank": "schema state thing relation user",
    },
    "papers": {
        "judge": "schema state user paper", "paper_for": "schema state thing relation user",
        "trimmed": "schema state user paper", "weight": "schema state thing relation user",
        "ways": "schema state thing relation user rounds",
    },
    "expansions": {
        "expand": "schema state thing relation", "unfold": "schema state thing relation", "is_in": "tree user",
        "places": "tree user", "pruned": "tree", "listed": "schema state thing relation",
        "things": "schema state user kind relation", "page": "schema state user kind relation size after",
        "compared": "schema state thing relation other other_relation",
    },
    "histories": {
        "snapshot": "schema state history token", "spans": "schema state history thing relation user",
        "answers": "schema state history kept token thing relation user",
        "sure_from": "schema state history kept thing relation user",
        "leaks": "schema state history kept token first last thing relation user",
        "closed_by": "schema state history kept first last thing relation user",
        "watch": "schema state history token kinds", "came_and_went": "schema state history one other user",
        "session": "schema state history kept reads",
    },
    "needless": {
        "agree": "schema state other concerns", "difference": "schema state other concerns",
        "spare_rows": "schema state concerns", "needed_for": "schema state concerns row",
        "thinned": "schema state concerns", "is_thin": "schema state concerns",
        "greatest_sets": "schema state concerns rows", "count_sets": "schema state concerns rows",
    },
    "changes": {
        "switched": "schema state switches change", "least_change": "schema state switches wishes",
        "minimal_changes": "schema state switches wishes", "effects": "schema state switches change concerns",
        "quiet_change": "schema state switches wishes concerns", "why_not": "schema state switches wishes",
        "judge_change": "schema state switches wishes told",
    },
    "profiles": {
        "profiles": "schema bare kind", "state_for": "schema bare kind profile", "can": "schema bare kind having lacking",
        "always": "schema bare kind given wanted", "never": "schema bare", "soundest": "schema bare",
        "is_sound": "schema bare value", "profile_of": "schema bare configuration",
    },
    "alike": {
        "alike": "schema other", "parting": "schema other", "without_part": "schema kind relation path",
        "spare_parts": "schema", "rows_lost": "schema other state", "rights_changed": "schema other state",
    },
    "writers": {
        "may": "schema rules state user change", "may_write": "schema rules state user thing",
        "refused_at": "schema rules state steps", "behind": "schema rules state steps",
        "can_come": "schema rules state company thing relation user",
        "rounds_to": "schema rules state company thing relation user",
        "way_to": "schema rules state company thing relation user",
        "shows_way": "schema rules state company thing relation user steps", "gains": "schema rules state company user",
        "fewest": "schema rules state company rows thing relation user",
        "can_grow": "schema rules kind bare profile relation", "keepers": "schema rules kind bare relation",
        "growing": "schema rules kind bare profile relation",
    },
    "merges": {
        "clean_orders": "schema rules state one other", "grid": "schema rules state one other",
        "clean_order": "schema rules state one other", "first_refusal": "schema rules state one other",
        "last_state": "schema rules state one other", "clashes": "schema rules state one other",
        "outcomes": "schema rules state one other",
        "rights_behind": "schema rules state one other thing relation user",
    },
    "texts": {
        "schema_text": "schema", "read_schema": "text", "rows_text": "schema state", "read_rows": "schema text",
        "journal_text": "live", "read_journal": "schema rules text",
    },
    "live": {"Live": None},
}

# The methods of Live, with what stands in the place of arguments that are not told.
LIVE = {
    "__init__": "self schema rules=()", "do": "self user change", "latest": "self", "content": "self token=None",
    "check": "self thing relation user token=None", "answers": "self thing relation user token", "since": "self token",
    "forget": "self token", "oldest": "self", "fork": "self", "__eq__": "self other",
}


class InterfaceTest(unittest.TestCase):
    def test_names_and_arguments(self):
        for module, entries in INTERFACE.items():
            for name, arguments in entries.items():
                value = getattr(importlib.import_module("relatedrights." + module), name)
                if arguments is not None:
                    parameters = inspect.signature(value).parameters
                    self.assertEqual(list(parameters), arguments.split(), name)
                    for parameter in parameters.values():
                        self.assertEqual(parameter.kind, parameter.POSITIONAL_OR_KEYWORD, name)
                        self.assertIs(parameter.default, parameter.empty, name)

    def test_each_one_is_defined_in_its_file(self):
        for module, entries in INTERFACE.items():
            tree = ast.parse((ROOT / "relatedrights" / (module + ".py")).read_text(encoding="utf-8"))
            defined = [node.name for node in tree.body if isinstance(node, (ast.FunctionDef, ast.ClassDef))]
            self.assertEqual([name for name in entries if name not in defined], [])

    def test_the_methods_of_live(self):
        tree = ast.parse((ROOT / "relatedrights" / "live.py").read_text(encoding="utf-8"))
        body = [node for node in tree.body if isinstance(node, ast.ClassDef) and node.name == "Live"][0].body
        found = {node.name: ast.unparse(node.args) for node in body if isinstance(node, ast.FunctionDef)}
        for name, arguments in LIVE.items():
            self.assertEqual(found[name].replace(", ", " "), arguments, name)


if __name__ == "__main__":
    unittest.main()
