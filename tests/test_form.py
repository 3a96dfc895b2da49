"""The form of the package: what stands where, and the sizes that LANGUAGE.md allows."""

import ast
import builtins
import pathlib
import unittest

PACKAGE = pathlib.Path(__file__).resolve().parent.parent / "crossfarers"
FUNCTIONS = {
    "shapes": ("is_name", "is_place", "is_day", "is_number", "is_plan", "is_crossing", "is_leg", "is_deed",
               "is_history", "is_sighting"),
    "worlds": ("check_frames",),
    "orders": ("arrangements", "arrangement_rank", "arrangement_of", "circuits", "cost", "exchanges", "mixed_number",
               "mixed_digits"),
    "texts": ("world_text", "read_world"),
    "changes": ("renamed", "shifted", "town_joined", "chosen", "united"),
    "ledgers": ("legs_of", "plan_of", "ledger_of", "starts_of", "standing", "users", "crossings_of", "sizes",
                "first_unbalanced", "world_of"),
    "deeds": ("done", "refusal", "crossing_of", "is_idle", "deeds_of", "deed_count", "replay", "worlds_along",
              "is_leading", "cut_history", "chained", "back", "neighbours_exchanged"),
    "threads": ("threads_of", "history_of", "joinings_of", "world_of_joinings", "split_history", "order_of",
                "shuffled", "normal_form", "histories_alike", "shortened"),
    "verdicts": ("one_class", "unlike_legs", "verdict", "is_verdict", "sorted_history", "check_class"),
    "fewest": ("map_count", "maps_on", "step_cost", "row_cost", "fewest", "day_bound", "least_row", "least_history",
               "bound_table", "is_bound_table", "is_least_history"),
    "lengths": ("length_rule", "settling_pair", "parity", "has_length", "lengths_upto", "history_of_length"),
    "classes": ("class_count", "crossing_counts", "rank_of", "world_of_rank", "class_worlds", "check_small",
                "deed_graph", "distances", "walk_numbers", "between"),
    "wishes": ("grant", "is_grant", "overbooked", "most_wishes", "meets", "world_met"),
    "flows": ("passing", "most", "most_world", "least_cut", "cut_size", "is_cut", "may_pass", "must_pass",
              "way_through", "way_around", "bring_history"),
    "fronts": ("front_of", "rest_book", "front_ledger", "rest_ledger", "glued", "telling_leg", "alike_behind"),
    "stretches": ("stretch_book", "first_stretches", "one_class_within", "class_count_within", "length_rule_within",
                  "verdict_within", "is_verdict_within"),
    "canon": ("profile", "town_orders", "canonical_table", "canonical_order", "town_pairing", "is_town_pairing",
              "traveller_pairing"),
    "diaries": ("is_run", "fit_run", "first_unfit", "may_be", "must_be", "wrong_number", "least_wrong",
                "is_wrong_set", "wrong_table", "is_wrong_table"),
    "repairs": ("distance", "differing", "changed", "least_repair", "is_repair"),
    "runs": ("end_of", "alike_on", "parting_rank"),
    "claims": ("is_claim", "judged"),
    "books": ("audit", "replayed", "parting"),
}
METHODS = {
    "bags": {"Bag": ("__init__", "__getitem__", "__contains__", "__iter__", "__add__", "__sub__", "__eq__", "many",
                     "kinds", "things", "within", "first_unlike")},
    "worlds": {
        "Web": ("__init__", "full", "chain", "towns", "ways", "joins", "near", "__contains__", "__iter__", "__eq__"),
        "World": ("__init__", "web", "names", "plans", "rows", "last_day", "__getitem__", "place", "begin", "last",
                  "rest", "__contains__", "__iter__", "__eq__"),
    },
    "diaries": {"Diary": ("__init__", "gaps", "notes", "moments", "upto", "without", "__eq__")},
    "errands": {"Errand": ("__init__", "text", "lines", "__eq__", "__call__")},
    "books": {"Book": ("__init__", "opening", "world", "rows", "many", "exchange", "come", "go", "claim", "run", "undo",
                       "world_at", "twin", "__eq__", "__iter__")},
}
LIBRARY = {"math": ("factorial",), "itertools": ("combinations", "permutations")}
MODIFYING = ("append", "clear", "extend", "insert", "pop", "remove", "reverse", "setdefault", "sort", "update", "add",
             "discard")


def trees():
    """Return the pairs of a file's name and its parsed code."""
    return [(path.stem, ast.parse(path.read_text())) for path in sorted(PACKAGE.glob("*.py"))]


def defined(body, kind):
    """Return the names that a body defines as functions or classes."""
    return [part.name for part in body if isinstance(part, kind)]


def is_plain(value):
    """Tell whether a constant is a number, a text, a tuple of texts, or a dict of texts to such values."""
    if isinstance(value, tuple):
        return all(isinstance(part, str) for part in value)
    if isinstance(value, dict):
        return all(isinstance(key, str) and isinstance(part, (int, str, tuple)) and is_plain(part)
                   for key, part in value.items())
    return isinstance(value, (int, str))


def names_for_one(function):
    """Return the dict of each name of a function to all names that may stand for the same value."""
    pairs = [(target.id, part.value.id) for part in ast.walk(function) if isinstance(part, ast.Assign)
             for target in part.targets if isinstance(target, ast.Name) and isinstance(part.value, ast.Name)]
    groups = {part.id: {part.id} for part in ast.walk(function) if isinstance(part, ast.Name)}
    for here, there in pairs:
        joined = groups[here] | groups[there]
        for name in joined:
            groups[name] = joined
    return groups


def walked_names(loop):
    """Return the names over whose values a loop goes, also through zip, items and the like, but not through list."""
    if isinstance(loop, ast.Name):
        return [loop.id]
    if isinstance(loop, ast.Call) and isinstance(loop.func, ast.Name):
        within = loop.args if loop.func.id in ("zip", "enumerate", "reversed") else []
        return [name for part in within for name in walked_names(part)]
    if isinstance(loop, ast.Call) and isinstance(loop.func, ast.Attribute):
        return walked_names(loop.func.value) if loop.func.attr in ("items", "keys", "values") else []
    return []


def modified_names(body):
    """Return the names whose values a list of statements modifies by a method, an item or a deletion."""
    found = []
    for part in [part for row in body for part in ast.walk(row)]:
        if isinstance(part, ast.Call) and isinstance(part.func, ast.Attribute) and part.func.attr in MODIFYING:
            found.append(part.func.value)
        if isinstance(part, ast.Subscript) and not isinstance(part.ctx, ast.Load):
            found.append(part.value)
    return [part.id for part in found if isinstance(part, ast.Name)]


class FormTest(unittest.TestCase):
    def test_the_folder_contains_code_only(self):
        names = [path.name for path in PACKAGE.iterdir() if path.name != "__pycache__"]
        self.assertIn("__init__.py", names)
        self.assertTrue(all(name.endswith(".py") for name in names))
        self.assertLessEqual(len(names), 100)

    def test_sizes_and_characters(self):
        for path in sorted(PACKAGE.glob("*.py")):
            text = path.read_text()
            lines = text.split("\n")
            self.assertLessEqual(len(lines), 399, path.name)
            self.assertLessEqual(max(len(line) for line in lines), 120, path.name)
            self.assertTrue(all(" " <= sign <= "~" or sign == "\n" for sign in text), path.name)

    def test_functions_are_small_and_unadorned(self):
        for name, tree in trees():
            for part in ast.walk(tree):
                if isinstance(part, ast.FunctionDef):
                    self.assertLessEqual(part.end_lineno - part.lineno + 1, 40, (name, part.name))
                    adorned = [ast.unparse(line) for line in part.decorator_list]
                    self.assertIn(adorned, [[], ["property"], ["classmethod"]], (name, part.name))

    def test_imports_come_from_the_package(self):
        homes = {name: defined(tree.body, (ast.FunctionDef, ast.ClassDef)) for name, tree in trees()}
        for name, tree in trees():
            for part in ast.walk(tree):
                self.assertNotIsInstance(part, ast.Import, name)
                if not isinstance(part, ast.ImportFrom):
                    continue
                self.assertEqual(part.level, 0, name)
                if part.module in LIBRARY:
                    self.assertTrue(all(word.name in LIBRARY[part.module] for word in part.names), name)
                    continue
                folder, _, home = part.module.partition(".")
                self.assertEqual(folder, "crossfarers", name)
                for word in part.names:
                    self.assertIsNone(word.asname, name)
                    self.assertTrue(word.name in homes[home] or word.name.isupper(), (name, word.name))

    def test_imports_are_used(self):
        for name, tree in trees():
            used = {part.id for part in ast.walk(tree) if isinstance(part, ast.Name)}
            for part in ast.walk(tree):
                if isinstance(part, ast.ImportFrom):
                    for word in part.names:
                        self.assertIn(word.name, used, name)

    def test_the_interface_is_defined_in_its_files(self):
        bodies = {name: tree.body for name, tree in trees()}
        for name, functions in FUNCTIONS.items():
            for function in functions:
                self.assertIn(function, defined(bodies[name], ast.FunctionDef))
        for name, classes in METHODS.items():
            found = {part.name: part.body for part in bodies[name] if isinstance(part, ast.ClassDef)}
            for word, methods in classes.items():
                for method in methods:
                    self.assertIn(method, defined(found[word], ast.FunctionDef))

    def test_names_are_not_given_another_meaning(self):
        for name, tree in trees():
            taken = set(dir(builtins)) | set(defined(tree.body, ast.ClassDef))
            for part in ast.walk(tree):
                if isinstance(part, ast.ImportFrom):
                    taken.update(word.name for word in part.names)
            for part in ast.walk(tree):
                if isinstance(part, ast.arg):
                    self.assertNotIn(part.arg, taken, name)
                if isinstance(part, ast.Name) and isinstance(part.ctx, ast.Store):
                    self.assertNotIn(part.id, taken, name)

    def test_what_a_loop_walks_is_not_modified_in_it(self):
        for name, tree in trees():
            for function in [part for part in ast.walk(tree) if isinstance(part, ast.FunctionDef)]:
                groups = names_for_one(function)
                for loop in [part for part in ast.walk(function) if isinstance(part, ast.For)]:
                    modified = modified_names(loop.body)
                    for walked in walked_names(loop.iter):
                        self.assertFalse(groups[walked] & set(modified), (name, function.name, walked))

    def test_module_level_holds_definitions_and_plain_constants(self):
        for name, tree in trees():
            for part in tree.body:
                self.assertIsInstance(
                    part, (ast.Expr, ast.ImportFrom, ast.FunctionDef, ast.ClassDef, ast.Assign), name)
                if isinstance(part, ast.Assign):
                    self.assertTrue(is_plain(ast.literal_eval(part.value)), name)


if __name__ == "__main__":
    unittest.main()
