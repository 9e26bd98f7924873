"""Rules of the language subset that can be told from the code at a glance."""

import ast
import builtins
import pathlib
import unittest

PACKAGE = pathlib.Path(__file__).parent.parent / "weft"

MODULES = {
    "errors": [
        "WeftError", "BadDocument", "NoPiece", "Missing", "Ring", "Taken", "Unfit", "Apart",
        "MadeLine", "Both", "Clash", "BadPatch", "NoVersion", "BuildRefused", "NoChange", "Held",
        "TooLong", "BadPlace",
    ],
    "lines": ["read", "write", "is_name", "is_code", "is_prose"],
    "pieces": ["sections", "piece_names", "piece_lines", "uses_of", "users_of", "closure"],
    "tangling": ["length", "tangle", "indent_of", "texts_of"],
    "weaving": ["weave"],
    "places": ["occurrences", "first_lines"],
    "fates": ["untouched", "is_touched", "edited"],
    "mapping": ["program_fates", "woven_fates", "apply"],
    "merging": ["merge"],
    "differences": ["least_edits", "cost_of"],
    "turning": ["rename", "take_out", "put_in", "split", "join", "move_section"],
    "session": ["Session"],
    "patches": ["compose", "inverse", "join", "moved"],
    "notation": ["write_patch", "read_patch"],
    "positions": ["from_program", "to_program", "to_woven", "from_woven", "trace", "spans"],
    "checks": [
        "unknown_uses", "idle_pieces", "knots", "depths", "longest_doubles", "share",
    ],
    "building": ["roots_of", "build", "build_fates"],
    "threeways": ["three_ways", "settle"],
    "history": ["History"],
    "folding": ["fold", "view_fates"],
    "desk": ["Desk"],
    "copies": ["Copy"],
    "letters": ["write_letter", "read_letter", "deliver"],
    "words": ["is_word", "words_of", "find_word", "word_index", "rename_word"],
    "outline": ["outline", "outline_texts", "sizes", "report"],
}

CLASSES = {
    "session": {
        "Session": [
            "document", "program", "woven", "pieces_made", "edit_program", "edit_woven",
            "edit_both", "replace_program", "undo", "redo",
        ],
    },
    "history": {
        "History": [
            "document", "change", "log", "blame", "program_blame", "take_back",
        ],
    },
    "desk": {"Desk": ["version", "document", "program", "since", "submit"]},
    "copies": {"Copy": ["texts", "edit", "send", "take", "refused"]},
}

BUILTINS = set("""
    len range enumerate zip min max sum abs sorted reversed int str bool bytes list tuple dict set
    isinstance ord repr any all divmod pow ValueError super
""".split())

# What iterates at once over what ranges, zips and views give.
ITERATING = set("list tuple dict sorted sum any all min max enumerate zip join".split())

METHODS = set("""
    append clear copy count endswith extend find get index insert isalnum isalpha isdigit islower
    isspace isupper items join keys ljust lower lstrip partition pop remove replace reverse rfind
    rjust rpartition rsplit rstrip setdefault split splitlines startswith strip update upper values
    zfill bit_length add discard
""".split())


def parsed():
    """Return a list of (path, text, tree) of all files of the package."""
    found = []
    for path in sorted(PACKAGE.glob("*.py")):
        text = path.read_text(encoding="utf-8")
        found.append((path, text, ast.parse(text)))
    return found


def nodes(kind):
    """Return a list of (path, node) of all nodes of a kind in the package."""
    return [(path, node) for path, _, tree in parsed() for node in ast.walk(tree)
            if isinstance(node, kind)]


def parents_and_children(tree):
    """Return a list of (parent, child) of all nodes of a tree."""
    return [(node, child) for node in ast.walk(tree) for child in ast.iter_child_nodes(node)]


def called_name(node):
    """Return the name of the function or method that a node calls, or None."""
    if not isinstance(node, ast.Call):
        return None
    if isinstance(node.func, ast.Attribute):
        return node.func.attr
    return node.func.id if isinstance(node.func, ast.Name) else None


class Language(unittest.TestCase):
    def test_interface_is_defined_where_it_is_listed(self):
        trees = {path.stem: tree for path, _, tree in parsed()}
        for module, names in MODULES.items():
            defined = [node.name for node in trees[module].body
                       if isinstance(node, (ast.FunctionDef, ast.ClassDef))]
            for name in names:
                with self.subTest(module=module, name=name):
                    self.assertIn(name, defined)

    def test_classes_define_the_methods_that_are_listed(self):
        trees = {path.stem: tree for path, _, tree in parsed()}
        for module, classes in CLASSES.items():
            defined = {node.name: node for node in trees[module].body
                       if isinstance(node, ast.ClassDef)}
            for name, methods in classes.items():
                own = [node.name for node in defined[name].body
                       if isinstance(node, ast.FunctionDef)]
                for method in methods:
                    with self.subTest(module=module, name=name, method=method):
                        self.assertIn(method, own)

    def test_folder_holds_plain_files_only(self):
        for path in PACKAGE.iterdir():
            if path.name != "__pycache__":
                self.assertRegex(path.name, r"^([a-z][a-z0-9_]*|__init__)\.py$")

    def test_sizes_and_characters(self):
        for path, text, tree in parsed():
            rows = text.split("\n")
            self.assertLess(len(rows), 400, path)
            for at, row in enumerate(rows):
                self.assertLessEqual(len(row), 120, (path, at))
                self.assertTrue(row.isascii() and (row == "" or row.isprintable()), (path, at))
        for path, node in nodes(ast.FunctionDef):
            self.assertLessEqual(node.end_lineno - node.lineno + 1, 40, (path, node.name))

    def test_imports_are_from_the_package_and_in_use(self):
        for path, node in nodes((ast.Import, ast.ImportFrom)):
            self.assertIsInstance(node, ast.ImportFrom, path)
            self.assertTrue(node.module.startswith("weft."), path)
        for path, text, tree in parsed():
            read = [node.id for node in ast.walk(tree) if isinstance(node, ast.Name)]
            for node in tree.body:
                if isinstance(node, ast.ImportFrom):
                    for alias in node.names:
                        self.assertIn(alias.name, read, path)

    def test_only_plain_statements_at_module_level(self):
        allowed = (ast.ImportFrom, ast.FunctionDef, ast.ClassDef, ast.Assign)
        for path, _, tree in parsed():
            for node in tree.body[1:]:
                self.assertIsInstance(node, allowed, (path, node.lineno))
            self.assertIsNotNone(ast.get_docstring(tree), path)

    def test_only_known_builtins_and_methods(self):
        others = set(dir(builtins)) - BUILTINS
        for path, node in nodes(ast.Name):
            self.assertNotIn(node.id, others, (path, node.lineno))
        for path, node in nodes(ast.arg):
            self.assertNotIn(node.arg, dir(builtins), (path, node.lineno))
        own = set([method.name for _, node in nodes(ast.ClassDef) for method in node.body
                   if isinstance(method, ast.FunctionDef)])
        for path, node in nodes(ast.Call):
            if isinstance(node.func, ast.Attribute):
                self.assertIn(node.func.attr, METHODS | own, (path, node.lineno))

    def test_ranges_zips_and_views_are_iterated_at_once(self):
        kinds = ("range", "zip", "enumerate", "reversed", "items", "keys", "values")
        for path, _, tree in parsed():
            for parent, node in parents_and_children(tree):
                name = called_name(node)
                if name in kinds:
                    iterated = isinstance(parent, (ast.For, ast.comprehension))
                    if name == "range" and called_name(parent) == "reversed":
                        iterated = True
                    self.assertTrue(iterated or called_name(parent) in ITERATING,
                                    (path, node.lineno))

    def test_no_local_name_is_that_of_an_import_or_a_function_of_the_file(self):
        for path, _, tree in parsed():
            taken = [alias.name for node in tree.body if isinstance(node, ast.ImportFrom)
                     for alias in node.names]
            taken += [node.name for node in tree.body
                      if isinstance(node, (ast.FunctionDef, ast.ClassDef))]
            self.assertEqual(len(taken), len(set(taken)), path)
            for node in ast.walk(tree):
                if isinstance(node, ast.arg):
                    self.assertNotIn(node.arg, taken, (path, node.lineno))
                if isinstance(node, ast.Name) and isinstance(node.ctx, ast.Store):
                    self.assertNotIn(node.id, taken, (path, node.lineno))

    def test_no_statement_or_expression_of_a_barred_kind(self):
        barred = (ast.Global, ast.AsyncFunctionDef, ast.Await, ast.Set, ast.SetComp, ast.Div)
        for path, node in nodes(barred):
            self.fail((path, node))
        for path, node in nodes(ast.Constant):
            self.assertNotIsInstance(node.value, (float, complex), path)
            if isinstance(node.value, str):
                self.assertNotIn("%", node.value, (path, node.lineno))
