"""The interface stands where the document lists it, and the package keeps the form that it must have."""

import ast
import builtins
import importlib
import inspect
import unittest
from pathlib import Path

PACKAGE = Path(__file__).resolve().parent.parent / "lotthrows"
INTERFACE = {
    "decks": {
        "is_deck": "(size, thing)", "is_order": "(n, thing)", "laid": "(deck, order)", "together": "(one, other)",
        "undone_order": "(order)", "opposite": "(order)", "counts_of": "(size, deck)", "deck_text": "(deck)",
        "read_deck": "(text)",
    },
    "throws": {
        "is_throw": "(thing)", "size_of": "(throw)", "still": "(size)", "turning": "(size)",
        "lot_of": "(throw, kind)", "way_of": "(throw, a, b)", "order_after": "(throw, deck)",
        "deck_after": "(throw, deck)", "throw_text": "(throw)", "read_throw": "(text)",
    },
    "sheets": {
        "is_desk": "(thing)", "is_sheet": "(desk, thing)", "throw_by": "(desk, sheet)",
        "gathered": "(desk, sheet, deck)", "sheet_for": "(desk, throw)",
    },
    "tables": {
        "is_table": "(thing)", "table_of": "(throw)", "judge_table": "(table)", "table_holds": "(table, thing)",
        "is_ring": "(table, thing)", "order_by_table": "(table, deck)", "tables_number": "(size)",
    },
    "rows": {
        "both": "(one, other)", "row_of": "(size, throws)", "power": "(throw, n)", "judge_undone": "(throw)",
        "undone_holds": "(throw, thing)", "judge_behind": "(first, whole)", "judge_ahead": "(last, whole)",
        "behind_holds": "(first, whole, thing)", "ahead_holds": "(last, whole, thing)",
    },
    "outcomes": {
        "can_come": "(throw, deck)", "went_in": "(throw, deck)", "all_in": "(throw, deck, *, most=256)",
    },
    "words": {
        "is_word": "(thing)", "is_choice": "(thing)", "throw_of": "(word, choice)", "last_stands": "(word)",
        "judge_words": "(one, other)", "words_hold": "(one, other, thing)", "are_alike_kept": "(one, other)",
        "plain_word": "(word)", "plain_number": "(n)", "all_plain": "(n)",
    },
    "folded": {
        "are_desks": "(thing)", "is_code": "(desks, thing)", "sign_of": "(desks, code)",
        "is_ahead": "(desks, one, other)", "codes_number": "(desks)", "code_at": "(desks, n)",
        "position_of": "(desks, code)", "folded_word": "(desks)",
    },
    "plans": {
        "is_plan": "(desks, thing)", "throw_of_plan": "(size, desks, plan)", "judge_made": "(desks, throw)",
        "made_holds": "(desks, throw, thing)", "plan_for": "(desks, throw)", "fewest": "(desk, throw)",
        "sign_rows": "(desks, m)",
    },
    "trees": {
        "is_tree": "(desk, throw, thing)", "handlings": "(desk, throw, tree, counts)",
        "order_by_tree": "(desk, throw, tree, deck)", "best_tree": "(desk, throw, counts)",
        "least_handlings": "(desk, throw, counts)",
    },
    "facts": {
        "fits": "(throw, facts)", "judge_facts": "(size, facts)", "facts_hold": "(size, facts, thing)",
        "ways_left": "(size, facts, a, b)", "judge_way": "(size, facts, a, b, way)",
        "way_holds": "(size, facts, a, b, way, thing)", "fitting_throws": "(size, facts, most)",
    },
    "probes": {
        "judge_test": "(size, deck)", "test_holds": "(size, deck, thing)", "least_test": "(size)",
        "looks_left": "(size, facts, deck)",
    },
    "books": {
        "is_book": "(thing)", "made_by": "(book, numbers)", "all_made": "(book)", "row_lengths": "(book)",
        "judge_reached": "(book, throw)", "reached_holds": "(book, throw, thing)", "judge_brought": "(book, kinds)",
        "brought_holds": "(book, kinds, thing)", "judge_same": "(one, other)", "same_holds": "(one, other, thing)",
    },
    "programs": {
        "is_program": "(size, thing)", "parts_of": "(size, program)", "ends": "(size, program, a, b)",
        "judge_sorted": "(size, program, kinds)", "sorted_holds": "(size, program, kinds, thing)",
        "judge_alike": "(size, one, other)", "alike_holds": "(size, one, other, thing)",
    },
    "runs": {
        "is_run": "(size, program, deck, thing)", "order_by": "(size, program, deck, run)",
        "run_to": "(size, program, a, b, end)",
    },
    "numbers": {
        "throws_number": "(size)", "throws_with": "(size, lots, turned)", "throw_at": "(size, n)",
        "number_of": "(throw)", "decks_number": "(counts)", "outcomes_number": "(throw, counts)",
        "alike_number": "(throw, counts)",
    },
    "benches": {"read_bench": "(text)"},
}
BENCH = {
    "__init__": "(self, size, deck)", "standing": "(self)", "deck": "(self)", "order": "(self)", "done": "(self)",
    "claims": "(self)", "text": "(self)", "undoable": "(self)", "redoable": "(self)", "is_same": "(self, thing)",
    "copied": "(self)", "thrown": "(self, throw)", "sheeted": "(self, desk, sheet)", "claim": "(self, words)",
    "release": "(self, words)", "undo": "(self)", "redo": "(self)",
}
LIBRARY = {"math": ("gcd", "lcm", "isqrt", "comb", "perm", "factorial")}
CALLED_BUILTINS = (
    "len range enumerate zip min max sum abs sorted reversed int str bool list tuple dict set isinstance ord repr any "
    "all divmod Exception ValueError TypeError KeyError IndexError LookupError"
).split()
BARRED_WORDS = (
    "register mro elements open input law version_info with_traceback add_note type typing typing_extensions enum Enum "
    "IntEnum StrEnum Flag IntFlag Generic Protocol ABC ABCMeta namedtuple NamedTuple TypedDict TYPE_CHECKING "
    "abstractmethod attrgetter compile copyright credits dir eval exec exit gc globals help id importlib license "
    "locals methodcaller os quit setattr super vars sys"
).split()
BARRED_NODES = (
    ast.AsyncFunctionDef, ast.Global, ast.Div, ast.Set, ast.SetComp, ast.Import, ast.Await, ast.AnnAssign, ast.TryStar,
)


def sources():
    """Each file of the package with its text and its tree."""
    for path in sorted(PACKAGE.glob("*.py")):
        text = path.read_text(encoding="utf-8")
        yield path, text, ast.parse(text)


def bound_names(tree):
    """All names that are bound within functions: parameters, variables, targets."""
    for node in ast.walk(tree):
        if isinstance(node, ast.arg):
            yield node.arg
        elif isinstance(node, ast.Name) and isinstance(node.ctx, ast.Store):
            yield node.id


def all_imports(tree):
    """The pairs (module, name) of all imports."""
    for node in ast.walk(tree):
        if isinstance(node, ast.ImportFrom):
            for alias in node.names:
                yield node.module, alias.name


def imported_names(tree):
    """The pairs (module, name) of all imports from the package."""
    for module, name in all_imports(tree):
        if module not in LIBRARY:
            yield module, name


class InterfaceTest(unittest.TestCase):
    def test_functions_stand_in_their_files_with_their_parameters(self):
        for name, functions in INTERFACE.items():
            module = importlib.import_module("lotthrows." + name)
            for function, parameters in functions.items():
                found = getattr(module, function)
                self.assertTrue(inspect.isfunction(found))
                self.assertEqual((found.__module__, found.__name__), (module.__name__, function))
                self.assertEqual(str(inspect.signature(found)), parameters, function)

    def test_the_bench_has_its_methods_itself(self):
        found = importlib.import_module("lotthrows.benches").Bench
        self.assertEqual((found.__module__, found.__name__, found.__bases__), ("lotthrows.benches", "Bench", (object,)))
        for method, parameters in BENCH.items():
            self.assertTrue(inspect.isfunction(vars(found)[method]), method)
            self.assertEqual(str(inspect.signature(vars(found)[method])), parameters, method)

    def test_classes_have_no_name_twice(self):
        for path, text, tree in sources():
            for found in [node for node in ast.walk(tree) if isinstance(node, ast.ClassDef)]:
                methods = [node.name for node in found.body if isinstance(node, ast.FunctionDef)]
                attributes = {node.attr for node in ast.walk(found) if isinstance(node, ast.Attribute)
                              and isinstance(node.ctx, ast.Store)}
                self.assertEqual(len(methods), len(set(methods)), path)
                self.assertEqual(attributes & set(methods), set(), path)
                for name in (*methods, *attributes):
                    for value in ("", 0, [], {}, set(), b""):
                        self.assertFalse(hasattr(value, name) and name != "__init__", (path, name))


class FormTest(unittest.TestCase):
    def test_the_folder_contains_nothing_else(self):
        for path in PACKAGE.iterdir():
            if path.name != "__pycache__":
                self.assertRegex(path.name, r"\A[a-z_][a-z0-9_]*\.py\Z")

    def test_characters_and_sizes(self):
        for path, text, tree in sources():
            self.assertTrue(all(sign == "\n" or " " <= sign <= "~" for sign in text), path)
            self.assertLessEqual(len(text.splitlines()), 399, path)
            self.assertLessEqual(max(len(line) for line in text.splitlines()), 120, path)
            for node in ast.walk(tree):
                if isinstance(node, ast.FunctionDef):
                    self.assertLessEqual(node.end_lineno - node.lineno + 1, 40, node.name)

    def test_imports_are_full_and_used_and_name_the_defining_file(self):
        for path, text, tree in sources():
            used = {node.id for node in ast.walk(tree) if isinstance(node, ast.Name)}
            for module, name in all_imports(tree):
                self.assertIn(name, used, path)
                self.assertIn(name, LIBRARY.get(module, (name,)), path)
            for module, name in imported_names(tree):
                self.assertRegex(module, r"\Alotthrows\.[a-z]+\Z", path)
                source = ast.parse((PACKAGE / (module.split(".")[1] + ".py")).read_text(encoding="utf-8"))
                defined = [node.name for node in source.body if isinstance(node, (ast.FunctionDef, ast.ClassDef))]
                assigned = [node for node in source.body if isinstance(node, ast.Assign)]
                defined += [target.id for node in assigned for target in node.targets]
                self.assertIn(name, defined, path)

    def test_no_two_files_import_from_each_other(self):
        reached = {}
        for path, _, tree in sources():
            reached[path.stem] = {module.split(".")[1] for module, _ in imported_names(tree)}
        for _ in reached:
            for name in reached:
                for other in list(reached[name]):
                    reached[name] |= reached[other]
        for name in reached:
            self.assertNotIn(name, reached[name])

    def test_names(self):
        for path, text, tree in sources():
            top = [node.name for node in tree.body if isinstance(node, (ast.FunctionDef, ast.ClassDef))]
            taken = {node.name for node in tree.body if isinstance(node, ast.ClassDef)}
            taken |= {name for _, name in all_imports(tree)}
            self.assertEqual(len(top), len(set(top)), path)
            for name in (*top, *bound_names(tree)):
                self.assertFalse(hasattr(builtins, name), (path, name))
                self.assertRegex(name, r"\A([A-Za-z][A-Za-z0-9_]*|_)\Z")
            for name in bound_names(tree):
                self.assertNotIn(name, taken, path)

    def test_only_what_the_subset_has(self):
        for path, text, tree in sources():
            for node in ast.walk(tree):
                where = (path, getattr(node, "lineno", 0))
                self.assertNotIsInstance(node, BARRED_NODES, where)
                if isinstance(node, ast.Name):
                    self.assertNotIn(node.id, BARRED_WORDS, where)
                    if hasattr(builtins, node.id):
                        self.assertIn(node.id, CALLED_BUILTINS, where)
                if isinstance(node, ast.Constant):
                    self.assertNotIsInstance(node.value, (float, complex), where)
                if isinstance(node, ast.FunctionDef):
                    self.assertEqual(node.decorator_list, [], where)
                    self.assertTrue(ast.get_docstring(node) or node.name == "__init__", where)


if __name__ == "__main__":
    unittest.main()
