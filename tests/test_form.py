"""The interface of the package, and the rules of LANGUAGE.md that a short test can see."""

import ast
import builtins
import pathlib
import unittest

PACKAGE = pathlib.Path(__file__).resolve().parent.parent / "towbarges"

INTERFACE = {
    "errors": {"TowError": None, "BadBook": None, "BadPlan": None, "NoPlan": None, "Gone": None, "BadText": None},
    "passing": {"time_at": "book place hour", "depth_at": "book stretch time"},
    "judging": {
        "refusals": "book plan",
        "worth": "book plan",
        "hours_alone": "book barge",
        "spare": "book plan",
    },
    "rows": {"rows": "book plan", "journal": "book plan"},
    "planning": {
        "best": "book start now",
        "counted": "book start now",
        "earliest": "book start now",
        "together": "book one other",
    },
    "showing": {"shows": "book start now worth table"},
    "mending": {"late": "book plan now barge ready", "lost": "book plan now barge"},
    "texts": {"written": "book plan", "read": "text"},
}

BUILTINS = """len range enumerate zip min max sum abs sorted reversed int str bool bytes list tuple dict set
isinstance ord repr any all divmod iter next map super Exception ValueError TypeError KeyError IndexError LookupError
ZeroDivisionError ArithmeticError OverflowError RuntimeError NotImplementedError AttributeError""".split()

METHODS = """append clear copy count endswith extend find get index insert isalnum isalpha isdigit islower isspace
isupper items join keys ljust lower lstrip partition pop remove replace reverse rfind rjust rpartition rsplit rstrip
setdefault split splitlines startswith strip update upper values zfill bit_length sort add discard __init__""".split()

BARRED = """register mro elements open input law version_info with_traceback add_note attrgetter breakpoint builtins
compile copyright credits delattr dir eval exec exit gc getattr globals hasattr help id importlib license locals
methodcaller os quit setattr type vars sys typing enum format format_map""".split()

NO_NODES = (
    ast.Global, ast.AsyncFunctionDef, ast.AsyncFor, ast.AsyncWith, ast.Await, ast.AnnAssign, ast.Div, ast.Import,
)


def sources():
    """Each file of the package with its text."""
    return [(path, path.read_text(encoding="utf-8")) for path in sorted(PACKAGE.glob("*.py"))]


def trees():
    """Each file of the package with its tree."""
    return [(path, ast.parse(text)) for path, text in sources()]


class Interface(unittest.TestCase):
    def test_each_name_is_defined_in_its_file(self):
        for file, names in INTERFACE.items():
            tree = ast.parse((PACKAGE / f"{file}.py").read_text(encoding="utf-8"))
            defined = {node.name: node for node in tree.body if hasattr(node, "name")}
            for name, arguments in names.items():
                with self.subTest(file=file, name=name):
                    node = defined[name]
                    if arguments is None:
                        self.assertIsInstance(node, ast.ClassDef)
                    else:
                        self.assertIsInstance(node, ast.FunctionDef)
                        self.assertEqual([part.arg for part in node.args.args], arguments.split())
                        self.assertEqual(node.args.defaults, [])


class Language(unittest.TestCase):
    def test_the_folder_holds_files_of_the_program_alone(self):
        for path in PACKAGE.iterdir():
            if path.name != "__pycache__":
                self.assertTrue(path.is_file() and path.suffix == ".py", path)
                self.assertRegex(path.name, r"^[a-z0-9_]+\.py$")

    def test_lines_and_characters(self):
        for path, text in sources():
            self.assertTrue(all(sign == "\n" or " " <= sign <= "~" for sign in text), path)
            lines = text.splitlines()
            self.assertLessEqual(len(lines), 399, path)
            self.assertLessEqual(max(len(line) for line in lines), 120, path)

    def test_functions_are_short_and_plain(self):
        for path, tree in trees():
            for node in ast.walk(tree):
                if isinstance(node, ast.FunctionDef):
                    with self.subTest(path=path.name, name=node.name):
                        self.assertLessEqual(node.end_lineno - node.lineno + 1, 40)
                        self.assertEqual(node.decorator_list, [])
                        self.assertIsNotNone(ast.get_docstring(node) or (node.name == "__init__" or None))

    def test_nothing_that_is_left_out_of_the_language(self):
        for path, tree in trees():
            for node in ast.walk(tree):
                self.assertNotIsInstance(node, NO_NODES, path)
                self.assertFalse(isinstance(node, ast.Constant) and isinstance(node.value, (float, complex)), path)
                self.assertFalse(isinstance(node, ast.Constant) and "%" in str(node.value), path)

    def test_imports_are_of_the_package_by_full_names_and_without_rings(self):
        needs = {}
        for path, tree in trees():
            needs[path.stem] = set()
            for node in ast.walk(tree):
                if isinstance(node, ast.ImportFrom):
                    self.assertIn(node, tree.body)
                    package, file = node.module.split(".")
                    self.assertEqual((package, node.level), ("towbarges", 0), path)
                    defined = ast.parse((PACKAGE / f"{file}.py").read_text(encoding="utf-8")).body
                    bound = [part.name for part in defined if hasattr(part, "name")]
                    bound += [part.targets[0].id for part in defined if isinstance(part, ast.Assign)]
                    for alias in node.names:
                        self.assertIn(alias.name, bound, path)
                        self.assertIsNone(alias.asname, path)
                    needs[path.stem].add(file)
        while needs:
            ready = [file for file, others in needs.items() if not others & set(needs)]
            self.assertTrue(ready, needs)
            for file in ready:
                del needs[file]

    def test_builtins_and_their_methods(self):
        own = []
        for _, tree in trees():
            for kind in [node for node in tree.body if isinstance(node, ast.ClassDef)]:
                own += [part.name for part in kind.body if isinstance(part, ast.FunctionDef)]
        for path, tree in trees():
            for node in ast.walk(tree):
                if isinstance(node, ast.Name) and hasattr(builtins, node.id):
                    self.assertIn(node.id, BUILTINS, path)
                    self.assertIsInstance(node.ctx, ast.Load, path)
                if isinstance(node, ast.Call) and isinstance(node.func, ast.Attribute):
                    self.assertIn(node.func.attr, METHODS + own, path)
                if isinstance(node, ast.arg):
                    self.assertFalse(hasattr(builtins, node.arg), path)

    def test_names_mean_one_thing_in_a_file(self):
        for path, tree in trees():
            bound, local = [], []
            for node in tree.body:
                if isinstance(node, ast.ImportFrom):
                    bound += [alias.name for alias in node.names]
                elif isinstance(node, (ast.ClassDef, ast.FunctionDef)):
                    bound.append(node.name)
                    inside = list(ast.walk(node))
                    local += [part.arg for part in inside if isinstance(part, ast.arg)]
                    stored = [part for part in inside if isinstance(part, ast.Name)]
                    local += [part.id for part in stored if isinstance(part.ctx, ast.Store)]
                elif isinstance(node, ast.Assign):
                    bound += [target.id for target in node.targets]
            self.assertEqual(len(bound), len(set(bound)), path)
            self.assertEqual(set(bound) & set(local), set(), path)

    def test_a_blank_name_is_not_read(self):
        for path, tree in trees():
            for node in ast.walk(tree):
                self.assertFalse(isinstance(node, ast.Name) and node.id == "_" and isinstance(node.ctx, ast.Load), path)

    def test_words_that_are_not_used(self):
        for path, tree in trees():
            for node in ast.walk(tree):
                for field in ("id", "arg", "attr", "name"):
                    self.assertNotIn(getattr(node, field, None), BARRED, path)


if __name__ == "__main__":
    unittest.main()
