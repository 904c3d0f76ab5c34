"""The form of the code, as far as a small program can see it; the marks L1 to L28 are those of the rules."""

import ast
import builtins
import inspect
import pathlib
import re
import tokenize
import unittest
from importlib import import_module

PACKAGE = pathlib.Path(__file__).resolve().parent.parent / "oddskept"
FILES = sorted(path for path in PACKAGE.rglob("*") if "__pycache__" not in path.parts)
TREES = {path.stem: ast.parse(path.read_text("ascii")) for path in FILES}

# The parameters of each function and class of the interface, and of each method ("self" left out).
INTERFACE = {
    "errors": {"OddsError": None, "BadShare": None, "BadBook": None, "BadProgram": None, "BadPlan": None, "Unfit": None,
               "TooLarge": None, "BadText": "line", "BadMove": "index", "BadEdit": "index"},
    "shares": {"Share": "top bottom=1", "Share.at_most": "other", "Share.parse": "text", "mean": "shares",
               "greatest": "shares", "power": "share exponent"},
    "codebook": {"CodeBook": "modulus registers rows parts ports deeds"},
    "codetext": {"write_code": "code", "read_code": "text parts=None"},
    "coderun": {"first_state": "code", "moves_of": "code state", "after": "code state move", "walk": "code state row"},
    "codestates": {"code_states": "code"},
    "wholedeeds": {"whole_deed": "code cells parts deed argument", "atomic": "code"},
    "plainbook": {"PlainBook": "states first choices", "PlainBook.options": "deed state argument"},
    "plaintext": {"write_plain": "plain", "read_plain": "text"},
    "stocks": {"Stock": "code plain", "first_plain": "stock"},
    "families": {"stairs": "height", "tally": "order"},
    "plainrun": {"takes_of": "stock state", "taken": "stock state port choice", "reach": "stock state"},
    "posts": {"post": "stock state move", "post_all": "stock states move", "post_row": "stock states row",
              "front_of": "stock states"},
    "nodes": {"first_node": "stock", "next_nodes": "stock node", "pairs_of": "stock"},
    "orders": {"ordered": "stock row", "judge_order": "stock row order", "unordered": "stock"},
    "progbook": {"Program": "mail objects threads", "most_throws": "program"},
    "progtext": {"write_program": "program", "read_program": "text"},
    "hall": {"Hall": "program stocks ways", "first_position": "hall", "picks_at": "hall position"},
    "picking": {"coin_sides": "hall position pick", "play_pick": "hall position pick side=0"},
    "levels": {"dead_at": "stock pair", "grade_of": "stock", "levels_of": "stock"},
    "judges": {"judge_table": "stock table", "judge_ladder": "stock ladder", "judge_script": "stock script",
               "script_throws": "script", "script_worth": "stock script"},
    "tables": {"make_table": "stock", "make_ladder": "stock height"},
    "scripts": {"make_script": "stock"},
    "verdicts": {"Verdict": "grade low high worth", "make_verdict": "stock", "judge_verdict": "stock verdict"},
    "scripttext": {"write_script": "script", "read_script": "text"},
    "plans": {"plan_throws": "plan", "fits": "hall plan", "Run": "chance trace", "run_plan": "hall plan tape",
              "outcomes": "hall plan"},
    "transcripts": {"write_run": "run", "read_run": "text"},
    "odds": {"plan_odds": "hall plan goal"},
    "best": {"best_odds": "hall goal", "best_plan": "hall goal"},
    "prices": {"make_prices": "hall goal", "judge_prices": "hall goal prices share"},
    "carry": {"carry": "hall papers plan"},
    "parting": {"parting": "stock script copies=1"},
    "beside": {"beside": "one two *more"},
    "besidetable": {"beside_table": "stocks tables"},
    "upon": {"upon": "upper lowers"},
    "upontable": {"upon_table": "upper lowers table tables"},
    "fusing": {"fuse": "code spots", "thin": "code"},
    "mends": {"find_mends": "stock candidates wish"},
    "uses": {"find_uses": "stock wish"},
    "edits": {"edited": "stock edit"},
    "desk": {"Desk": "stock", "Desk.edit": "edit", "Desk.apply": "edits", "Desk.undo": None, "Desk.again": None, "Desk.verdict": None},
    "store": {"write_stock": "stock", "read_stock": "text", "write_desk": "desk", "read_desk": "text"},
}
BUILTINS = set("""len range enumerate zip min max sum abs sorted reversed int str bool list tuple dict set isinstance ord repr
any all divmod getattr hasattr setattr iter next map property staticmethod classmethod super ValueError KeyError""".split())
METHODS = set("""append clear copy count endswith extend find get index insert isdigit items join keys lstrip partition pop remove
replace reverse setdefault split startswith strip update values removeprefix removesuffix add discard""".split())
LIBRARY = {"math": {"gcd"}}
BARRED = set("""type typing enum Enum Flag Generic Protocol ABC namedtuple NamedTuple TypedDict abstractmethod""".split())
NAMES_NOT_USED = set("""register mro elements open input law eval exec id vars dir help os quit exit format hash round""".split())


def walked(kind):
    return [(name, node) for name, tree in TREES.items() for node in ast.walk(tree) if isinstance(node, kind)]


def defined(tree):
    return {node.name: node for node in tree.body if isinstance(node, (ast.FunctionDef, ast.ClassDef))}


class Files(unittest.TestCase):
    def test_names(self):
        for path in FILES:
            self.assertEqual(path.parent, PACKAGE)
            self.assertRegex(path.name, r"^([a-z][a-z0-9_]*|__init__)\.py$")

    def test_characters_and_sizes(self):
        for path in FILES:
            text = path.read_text("ascii")
            self.assertTrue(all(sign == "\n" or " " <= sign <= "~" for sign in text), path)
            self.assertLess(text.count("\n"), 400, path)
            self.assertLessEqual(max(map(len, text.split("\n"))), 120, path)
            self.assertTrue(text.endswith("\n"))

    def test_functions_are_small(self):
        for name, node in walked(ast.FunctionDef):
            self.assertLessEqual(node.end_lineno - node.lineno + 1, 40, (name, node.name))

    def test_words(self):
        for path in FILES:
            with open(path, "rb") as file:
                for token in tokenize.tokenize(file.readline):
                    if token.type in (tokenize.NAME, tokenize.STRING) and not token.string.startswith('"""'):
                        self.assertFalse(BARRED & set(re.findall(r"\w+", token.string)), (path, token.string))
                        self.assertFalse(token.type == tokenize.STRING and "%" in token.string)


class Modules(unittest.TestCase):
    def test_module_level(self):
        for name, tree in TREES.items():
            for node in tree.body[1:]:
                self.assertIsInstance(node, (ast.ImportFrom, ast.FunctionDef, ast.ClassDef, ast.Assign, ast.Expr), name)
            self.assertIsNotNone(ast.get_docstring(tree), name)
            names = [node.name for node in tree.body if isinstance(node, (ast.FunctionDef, ast.ClassDef))]
            self.assertEqual(len(names), len(set(names)))

    def test_imports(self):
        self.assertEqual(walked(ast.Import), [])
        for name, node in walked(ast.ImportFrom):
            self.assertEqual(node.level, 0)
            if node.module in LIBRARY:
                self.assertTrue({alias.name for alias in node.names} <= LIBRARY[node.module])
                continue
            package, module = node.module.split(".")
            self.assertEqual(package, "oddskept")
            found = defined(TREES[module]).keys() | {
                target.id for one in TREES[module].body if isinstance(one, ast.Assign) for target in one.targets}
            for alias in node.names:
                self.assertIsNone(alias.asname)
                self.assertIn(alias.name, found, (name, module))

    def test_imports_go_one_way(self):
        uses = {name: set() for name in TREES}
        for name, node in walked(ast.ImportFrom):
            if node.module.startswith("oddskept."):
                uses[name].add(node.module.split(".")[1])
        while uses:
            free = [name for name in uses if not uses[name] & uses.keys()]
            self.assertTrue(free, uses)
            for name in free:
                del uses[name]

    def test_no_import_is_unused_or_hidden(self):
        for name, tree in TREES.items():
            imported = {alias.name for node in tree.body if isinstance(node, ast.ImportFrom) for alias in node.names}
            loaded = {node.id for node in ast.walk(tree) if isinstance(node, ast.Name) and isinstance(node.ctx, ast.Load)}
            self.assertEqual(imported - loaded, set(), name)
            stored = {node.id for node in ast.walk(tree) if isinstance(node, ast.Name) and isinstance(node.ctx, ast.Store)}
            stored |= {node.arg for node in ast.walk(tree) if isinstance(node, ast.arg)}
            self.assertEqual(stored & (imported | defined(tree).keys()), set(), name)


class Code(unittest.TestCase):
    def test_builtins_and_names(self):
        for name, node in walked(ast.Name):
            if hasattr(builtins, node.id):
                self.assertIn(node.id, BUILTINS, name)
                self.assertIsInstance(node.ctx, ast.Load, (name, node.id))
            self.assertNotIn(node.id, NAMES_NOT_USED, name)
        for name, node in walked(ast.arg):
            self.assertFalse(hasattr(builtins, node.arg) or node.arg in NAMES_NOT_USED, (name, node.arg))

    def test_methods(self):
        own = {node.name for _, node in walked(ast.FunctionDef)}
        for name, node in walked(ast.Call):
            if isinstance(node.func, ast.Attribute):
                self.assertIn(node.func.attr, METHODS | own | {"__init__"}, name)

    def test_no_other_statements(self):
        for kind in (ast.AsyncFunctionDef, ast.Global, ast.Nonlocal, ast.AnnAssign, ast.NamedExpr, ast.Set, ast.With, ast.Match,
                     ast.GeneratorExp, ast.YieldFrom):
            self.assertEqual(walked(kind), [])

    def test_own_errors_alone_are_caught(self):
        own = set(defined(TREES["errors"]))
        for name, node in walked(ast.Try):
            self.assertFalse(node.finalbody)
            for handler in node.handlers:
                self.assertIsInstance(handler.type, ast.Name, name)
                self.assertIn(handler.type.id, own, name)

    def test_generators_are_iterated_at_once(self):
        """L23: a function with a yield is called behind the `in` of a loop alone, and has no value to return."""
        yielding = {node.name for _, node in walked(ast.FunctionDef) if any(isinstance(one, ast.Yield) for one in ast.walk(node))}
        heads = {id(node.iter) for _, node in walked(ast.For)}
        for name, node in walked(ast.Call):
            if isinstance(node.func, ast.Name) and node.func.id in yielding:
                self.assertIn(id(node), heads, (name, node.lineno))
        self.assertEqual(yielding, {"outcomes"})

    def test_targets(self):
        """L6 and L23: names, and names in parentheses, no deeper."""
        targets = [(name, target) for name, node in walked(ast.Assign) for target in node.targets]
        targets += [(name, node.target) for name, node in walked((ast.For, ast.comprehension))]
        for name, target in targets:
            for one in getattr(target, "elts", []):
                for inner in getattr(one, "elts", []):
                    self.assertIsInstance(inner, ast.Name, (name, ast.unparse(target)))

    def test_sets_are_stored_once_and_never_passed_on(self):
        """L24: a local variable that holds a set is only asked, added to, measured, sorted and tested."""
        for name, function in walked(ast.FunctionDef):
            kept = {node.targets[0].id for node in ast.walk(function) if isinstance(node, ast.Assign)
                    and isinstance(node.value, (ast.Call, ast.SetComp)) and isinstance(node.targets[0], ast.Name)
                    and (isinstance(node.value, ast.SetComp) or getattr(node.value.func, "id", "") == "set")}
            allowed = []
            for node in ast.walk(function):
                if isinstance(node, ast.Compare):
                    allowed += [one for sign, one in zip(node.ops, node.comparators) if isinstance(sign, (ast.In, ast.NotIn))]
                if isinstance(node, ast.Call) and getattr(node.func, "id", "") in ("sorted", "len"):
                    allowed += node.args
                if isinstance(node, ast.Call) and isinstance(node.func, ast.Attribute) and node.func.attr in ("add", "discard"):
                    allowed.append(node.func.value)
            stored = [node.id for node in ast.walk(function) if isinstance(node, ast.Name) and isinstance(node.ctx, ast.Store)]
            for node in ast.walk(function):
                if isinstance(node, ast.Name) and isinstance(node.ctx, ast.Load) and node.id in kept:
                    self.assertTrue(any(node is one for one in allowed), (name, function.name, node.id, node.lineno))
            for one in kept:
                self.assertEqual(stored.count(one), 1, (name, function.name, one))

    def test_attributes_are_assigned_through_names(self):
        for name, node in walked(ast.Attribute):
            if isinstance(node.ctx, ast.Store):
                self.assertIsInstance(node.value, ast.Name, (name, node.lineno))

    def test_properties_are_no_attributes(self):
        """L5: what is a property of one class is assigned on no object."""
        told = {node.name for _, node in walked(ast.FunctionDef) if "property" in [getattr(one, "id", "") for one in node.decorator_list]}
        self.assertEqual(told, {"deterministic", "stock", "steps_done", "steps_undone"})
        for name, node in walked(ast.Attribute):
            self.assertFalse(isinstance(node.ctx, (ast.Store, ast.Del)) and node.attr in told, (name, node.lineno))

    def test_attributes_that_are_read_are_assigned(self):
        """L18: an attribute that is read is assigned by some class, or is a method or a property."""
        known = {node.attr for _, node in walked(ast.Attribute) if isinstance(node.ctx, ast.Store)}
        known |= {node.name for _, node in walked(ast.FunctionDef)} | METHODS | {"__init__"}
        for name, node in walked(ast.Attribute):
            self.assertIn(node.attr, known, (name, node.lineno))

    def test_methods_and_attributes_of_a_class_differ(self):
        for name, node in walked(ast.ClassDef):
            methods = {one.name for one in node.body if isinstance(one, ast.FunctionDef)}
            assigned = {one.attr for one in ast.walk(node) if isinstance(one, ast.Attribute) and isinstance(one.ctx, ast.Store)}
            self.assertFalse(methods & assigned, (name, node.name))

    def test_no_float_and_no_slash(self):
        for name, node in walked(ast.Constant):
            self.assertNotIsInstance(node.value, (float, complex, bytes), name)
        self.assertEqual(walked(ast.Div) + walked(ast.Pow), [])

    def test_lists_for_builtins(self):
        """L7: beside an own == these take no generator expression."""
        for name, node in walked(ast.Call):
            if isinstance(node.func, ast.Name) and node.func.id in ("any", "all", "min", "max", "sum", "sorted"):
                self.assertFalse(any(isinstance(one, ast.GeneratorExp) for one in node.args), (name, node.lineno))

    def test_is(self):
        for name, node in walked(ast.Compare):
            for sign, other in zip(node.ops, node.comparators):
                if isinstance(sign, (ast.Is, ast.IsNot)):
                    self.assertIn(getattr(other, "value", "other"), (None, True, False), name)

    def test_decorators(self):
        told = [one.id for _, node in walked((ast.FunctionDef, ast.ClassDef)) for one in node.decorator_list]
        self.assertTrue(set(told) <= {"property", "staticmethod"})


class Interface(unittest.TestCase):
    def test_names_and_parameters(self):
        for module, told in INTERFACE.items():
            loaded = import_module(f"oddskept.{module}")
            for path, parameters in told.items():
                thing = loaded
                for name in path.split("."):
                    self.assertIn(name, vars(thing), module)
                    thing = getattr(thing, name)
                self.assertEqual(thing.__module__, f"oddskept.{module}")
                if parameters is not None:
                    found = [str(one) for one in inspect.signature(thing).parameters.values() if one.name != "self"]
                    self.assertEqual(found, parameters.split(" "), path)

    def test_generator(self):
        self.assertTrue(inspect.isgeneratorfunction(import_module("oddskept.plans").outcomes))

    def test_operators_and_properties(self):
        share = vars(import_module("oddskept.shares").Share)
        for name in ("__add__", "__sub__", "__mul__", "__eq__", "__str__"):
            self.assertIn(name, share)
        self.assertIsInstance(share["parse"], staticmethod)
        self.assertIsInstance(vars(import_module("oddskept.plainbook").PlainBook)["deterministic"], property)
        for name in ("stock", "steps_done", "steps_undone"):
            self.assertIsInstance(vars(import_module("oddskept.desk").Desk)[name], property)

    def test_keywords(self):
        for module, name, parameter in (("parting", "parting", "copies"), ("mends", "find_mends", "wish"), ("uses", "find_uses", "wish")):
            told = inspect.signature(getattr(import_module(f"oddskept.{module}"), name)).parameters[parameter]
            self.assertEqual(told.kind, inspect.Parameter.KEYWORD_ONLY)

    def test_methods_without_parameters(self):
        desk = vars(import_module("oddskept.desk").Desk)
        for name in ("undo", "again", "verdict"):
            self.assertEqual(list(inspect.signature(desk[name]).parameters), ["self"])
