"""What can be seen of the rules of the language without reading: sizes, signs, imports, names."""

import ast
import builtins
import pathlib
import re
import sys
import unittest

import restitch

FOLDER = pathlib.Path(restitch.__file__).parent
FILES = sorted(FOLDER.glob("*.py"))
BUILTINS = set(
    "len range enumerate zip min max sum abs sorted reversed int str bool bytes list tuple dict set "
    "frozenset isinstance ord repr any all divmod pow getattr hasattr setattr iter next map property super "
    "Exception ValueError TypeError KeyError IndexError LookupError ZeroDivisionError ArithmeticError "
    "OverflowError RuntimeError NotImplementedError AttributeError StopIteration NotImplemented".split()
)
LIBRARY = {"heapq", "math", "itertools", "collections"}
NOWHERE = {"register", "mro", "elements", "open", "input", "law", "version_info", "with_traceback", "add_note"}
BARRED = re.compile(
    r"\b(type|typing|typing_extensions|enum|Enum|IntEnum|StrEnum|Flag|IntFlag|Generic|Protocol|ABC|ABCMeta|"
    r"namedtuple|NamedTuple|TypedDict|TYPE_CHECKING|abstractmethod)\b|dataclass|overload|contextmanager|_wall"
)

INTERFACE = {
    "codes": "encode decode OPS reads writes",
    "memory": "image_faults find_segment can_load can_store can_fetch load_word store_word word_at",
    "machine": "compute holds start step run last_state trace",
    "text": "show_instruction show_code assemble",
    "image": "pack_image unpack_image",
    "link": "name_at address_of link",
    "blocks": "ends_block leaders code_blocks code_loops",
    "descent": "descend calls routines call_graph",
    "tables": "jump_tables",
    "values": "allows within meet join_facts result decided",
    "ways": "is_place places ways allowed_targets",
    "holding": "plain facts_at holds_table",
    "solve": "solve",
    "book": "book_faults targets_of_end",
    "runbook": "run_book last_of_book",
    "layout": "lay pack unpack",
    "symbols": "Pool",
    "walk": "old_way body_way settle",
    "checker": "check refusal row_of",
    "first": "first_book",
    "weave": "count_places weave counted",
    "house": "WORDS rewrite read_script show_script House",
    "tidy": "order join drop",
    "known": "known reuse",
    "dead": "dead wanted",
    "copies": "copies",
    "errors": "RestitchError AssemblyError BookError ImageError LinkError ScriptError UnknownWord",
}


def trees():
    return [(path.name, ast.parse(path.read_text())) for path in FILES]


def nodes(*kinds):
    return [(name, node) for name, tree in trees() for node in ast.walk(tree) if isinstance(node, kinds)]


class Language(unittest.TestCase):
    def test_the_folder_holds_files_of_python_only(self):
        self.assertGreaterEqual({path.name for path in FILES}, {"__init__.py", "codes.py", "machine.py", "memory.py"})
        self.assertLessEqual(len(FILES), 100)
        for path in FOLDER.iterdir():
            if path.name != "__pycache__":
                self.assertRegex(path.name, r"^[a-z0-9_]+\.py$")
                self.assertNotIn(path.stem, set(dir(builtins)) | set(sys.stdlib_module_names) - {"__init__"})

    def test_sizes_and_characters(self):
        for path in FILES:
            lines = path.read_text().splitlines()
            self.assertLessEqual(len(lines), 399, path.name)
            for number, line in enumerate(lines, 1):
                self.assertLessEqual(len(line), 120, (path.name, number))
                self.assertRegex(line, r"^[ -~]*$", (path.name, number))
        for name, node in nodes(ast.FunctionDef):
            self.assertLessEqual(node.end_lineno - node.lineno + 1, 40, (name, node.name))

    def test_imports(self):
        for name, tree in trees():
            for node in ast.walk(tree):
                self.assertNotIsInstance(node, ast.Import, name)
                if isinstance(node, ast.ImportFrom):
                    self.assertIn(node, tree.body)
                    self.assertEqual(node.level, 0)
                    self.assertTrue(node.module.startswith("restitch.") or node.module in LIBRARY, node.module)
                    self.assertNotIn("*", [alias.name for alias in node.names])

    def test_statements(self):
        wrong = (
            ast.Global, ast.AsyncFunctionDef, ast.AsyncFor, ast.AsyncWith, ast.Await, ast.SetComp, ast.Div,
            ast.TryStar, ast.Starred,
        )
        for name, node in nodes(*wrong):
            # A star and a set comprehension are allowed where a literal or sorted(..) has them.
            self.assertIsInstance(node, (ast.SetComp, ast.Starred), (name, node.lineno))
        for name, node in nodes(ast.Constant):
            self.assertNotIsInstance(node.value, (float, complex), (name, node.lineno))
            if isinstance(node.value, str):
                self.assertNotIn("%", node.value, (name, node.lineno))

    def test_module_level(self):
        for name, tree in trees():
            for place, node in enumerate(tree.body):
                plain = (ast.ImportFrom, ast.FunctionDef, ast.ClassDef, ast.Assign)
                if place > 0 or not isinstance(node, ast.Expr):
                    self.assertIsInstance(node, plain, (name, node.lineno))
                if isinstance(node, ast.Assign):
                    self.assertEqual(len(node.targets), 1)
                    self.assertFalse([part for part in ast.walk(node) if isinstance(part, (ast.Call, ast.Lambda))])

    def test_names(self):
        for name, node in nodes(ast.Name):
            if hasattr(builtins, node.id):
                self.assertIn(node.id, BUILTINS, (name, node.lineno))
                self.assertIsInstance(node.ctx, ast.Load, (name, node.lineno))
            self.assertNotIn(node.id, NOWHERE, (name, node.lineno))
        for name, node in nodes(ast.arg):
            self.assertFalse(hasattr(builtins, node.arg), (name, node.arg))
        for name, node in nodes(ast.Attribute):
            self.assertNotIn(node.attr, NOWHERE, (name, node.lineno))
        for path in FILES:
            self.assertIsNone(BARRED.search(path.read_text()), path.name)

    def test_no_local_name_is_an_import_or_a_class_of_its_file(self):
        for name, tree in trees():
            taken = {alias.name for node in tree.body if isinstance(node, ast.ImportFrom) for alias in node.names}
            taken |= {node.name for node in tree.body if isinstance(node, ast.ClassDef)}
            for node in ast.walk(tree):
                if isinstance(node, ast.arg):
                    self.assertNotIn(node.arg, taken | NOWHERE, (name, node.lineno))
                if isinstance(node, ast.Name) and isinstance(node.ctx, ast.Store):
                    self.assertNotIn(node.id, taken, (name, node.lineno))

    def test_module_level_names_are_bound_once(self):
        for name, tree in trees():
            bound = [alias.name for node in tree.body if isinstance(node, ast.ImportFrom) for alias in node.names]
            bound += [node.name for node in tree.body if isinstance(node, (ast.FunctionDef, ast.ClassDef))]
            bound += [node.targets[0].id for node in tree.body if isinstance(node, ast.Assign)]
            self.assertEqual(len(bound), len(set(bound)), name)

    def test_sets_stand_in_sorted_only(self):
        for name, tree in trees():
            allowed = [
                id(inner) for node in ast.walk(tree) if isinstance(node, ast.Call) and isinstance(node.func, ast.Name)
                and node.func.id in ("sorted", "len") for inner in node.args
            ]
            for node in ast.walk(tree):
                called = isinstance(node, ast.Call) and isinstance(node.func, ast.Name) and node.func.id == "set"
                if called or isinstance(node, (ast.Set, ast.SetComp)):
                    self.assertIn(id(node), allowed, (name, node.lineno))

    def test_no_function_calls_itself_straight(self):
        for name, node in nodes(ast.FunctionDef):
            for inner in ast.walk(node):
                if isinstance(inner, ast.Call) and isinstance(inner.func, ast.Name):
                    self.assertNotEqual(inner.func.id, node.name, (name, node.lineno))

    def test_the_interface_is_defined_where_it_is_listed(self):
        for name, words in INTERFACE.items():
            tree = ast.parse((FOLDER / f"{name}.py").read_text())
            found = {node.name for node in tree.body if isinstance(node, (ast.FunctionDef, ast.ClassDef))}
            found |= {node.targets[0].id for node in tree.body if isinstance(node, ast.Assign)}
            self.assertLessEqual(set(words.split()), found, name)

    def test_the_methods_of_a_pool_are_defined_in_it(self):
        tree = ast.parse((FOLDER / "symbols.py").read_text())
        pool, = [node for node in tree.body if isinstance(node, ast.ClassDef) and node.name == "Pool"]
        methods = {node.name for node in pool.body if isinstance(node, ast.FunctionDef)}
        self.assertLessEqual({"term", "word", "node", "normal", "settled", "value_of"}, methods)

    def test_the_methods_of_a_house_are_defined_in_it(self):
        tree = ast.parse((FOLDER / "house.py").read_text())
        home, = [node for node in tree.body if isinstance(node, ast.ClassDef) and node.name == "House"]
        methods = {node.name: [ast.unparse(found) for found in node.decorator_list] for node in home.body if isinstance(node, ast.FunctionDef)}
        self.assertLessEqual({"apply", "undo", "book", "paper", "play", "size", "parts"}, set(methods))
        self.assertEqual({name: found for name, found in methods.items() if found}, {"book": ["property"], "paper": ["property"]})

    def test_methods_and_attributes(self):
        taken = {name for kind in (str, int, list, dict, set, bytes, tuple) for name in dir(kind)}
        may_be = {"append", "clear", "extend", "insert", "pop", "remove", "reverse", "setdefault", "update", "add", "discard", "__init__"}
        for name, node in nodes(ast.ClassDef):
            methods = {inner.name for inner in node.body if isinstance(inner, ast.FunctionDef)}
            stored = {inner.attr for inner in ast.walk(node) if isinstance(inner, ast.Attribute) and isinstance(inner.ctx, ast.Store)}
            self.assertFalse(methods & stored, (name, node.name))
            self.assertFalse((methods | stored) & taken - may_be, (name, node.name))

    def test_each_import_is_used(self):
        for name, tree in trees():
            brought = {alias.name for node in tree.body if isinstance(node, ast.ImportFrom) for alias in node.names}
            self.assertLessEqual(brought, {node.id for node in ast.walk(tree) if isinstance(node, ast.Name)}, name)

    def test_no_module_imports_itself_through_others(self):
        uses = {
            name[:-3]: {
                node.module.split(".")[1] for node in tree.body
                if isinstance(node, ast.ImportFrom) and node.module.startswith("restitch.")
            }
            for name, tree in trees()
        }
        while uses:
            free = [name for name in uses if not uses[name] & set(uses)]
            self.assertTrue(free, sorted(uses))
            for name in free:
                del uses[name]


if __name__ == "__main__":
    unittest.main()
