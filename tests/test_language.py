"""Tests of what the package's files may contain: the rules of the language that can plainly be seen."""

import ast
import builtins
import inspect
import unittest
from importlib import import_module
from pathlib import Path

TOP = Path(__file__).resolve().parent.parent
PACKAGE = TOP / "leastnet"
FILES = sorted(path for path in PACKAGE.rglob("*.py"))

LIBRARY = {
    "heapq": {"heappush", "heappop", "heapify", "heapreplace", "heappushpop"},
    "math": {"gcd", "lcm", "isqrt", "comb", "perm", "factorial"},
    "itertools": {"product", "combinations", "permutations", "chain", "accumulate", "pairwise", "islice", "zip_longest"},
    "collections": {"defaultdict", "deque"},
    "__future__": {"annotations"},
}
BUILTINS = set(
    "len range enumerate zip min max sum abs sorted reversed int str bool list tuple dict set frozenset isinstance ord"
    " repr any all divmod pow getattr hasattr setattr iter next map type super property staticmethod classmethod"
    " Exception ValueError TypeError KeyError IndexError LookupError ZeroDivisionError ArithmeticError OverflowError"
    " RuntimeError NotImplementedError AttributeError StopIteration NotImplemented".split()
)
METHODS = set(
    "append clear copy count endswith extend find get index insert isalnum isalpha isdigit islower isspace isupper"
    " items join keys ljust lower lstrip partition pop remove replace reverse rfind rjust rpartition rsplit rstrip"
    " setdefault split splitlines startswith strip update upper values zfill bit_length title capitalize swapcase"
    " casefold center expandtabs removeprefix removesuffix rindex isascii isdecimal isnumeric istitle isidentifier"
    " isprintable encode decode hex translate maketrans add discard sort format appendleft popleft extendleft rotate"
    .split()
)
NOT_USED = set(
    "register mro elements open input law version_info with_traceback add_note attrgetter breakpoint builtins compile"
    " copyright credits delattr dir eval exec exit gc globals help id importlib license locals methodcaller os quit vars"
    " sys typing enum Enum Generic Protocol ABC namedtuple dataclass overload contextmanager abstractmethod".split()
)
DOUBLES = set(
    "init eq repr str len enter exit call iter lt le gt ge ne add sub mul floordiv mod pow and or xor lshift rshift"
    " radd rsub rmul rfloordiv rmod rand ror rxor rlshift rrshift iadd isub imul ifloordiv imod ipow iand ior ixor"
    " ilshift irshift neg pos invert abs bool contains getitem setitem".split()
)
STATEMENTS = (
    ast.FunctionDef, ast.ClassDef, ast.Assign, ast.AugAssign, ast.AnnAssign, ast.If, ast.While, ast.For, ast.Return,
    ast.Break, ast.Continue, ast.Pass, ast.Raise, ast.Assert, ast.Delete, ast.Nonlocal, ast.Match, ast.With, ast.Try,
    ast.Expr, ast.ImportFrom,
)

INTERFACE = {
    "leastnet.base.words": {
        "is_alphabet": "(value)", "make_alphabet": "(*actions)", "alphabet_from": "(actions)",
        "is_word": "(alphabet, value)", "counts_of": "(alphabet, word)", "is_vector": "(value)",
        "plus": "(first, *others)", "minus": "(first, second)", "times": "(number, vector)", "dot": "(first, second)",
        "words_with": "(alphabet, counts)", "count_words": "(alphabet, counts)",
    },
    "leastnet.base.fractions": {
        "is_fraction": "(value)", "fraction_of": "(top, below)", "sum_of": "(*fractions)", "sum_of_all": "(fractions)",
        "product_of": "(one, other)", "compared": "(one, other)", "blended": "(pairs)", "reduced": "(rows)",
        "kernel": "(rows)", "solved": "(rows, right)", "is_solved": "(rows, right, value)",
    },
    "leastnet.nets.places": {
        "is_place": "(alphabet, value)", "is_plain": "(place)",
        "make_place": "(alphabet, *, start=0, takes=None, gives=None)", "change_of": "(place)",
        "tokens": "(place, counts)", "allows_step": "(alphabet, place, counts, action)",
        "first_barred": "(alphabet, place, word)", "multiple": "(number, place)", "divided": "(place)",
        "sum_of_places": "(first, *others)",
    },
    "leastnet.nets.nets": {"Net": "(alphabet, *places)"},
    "leastnet.seen.behaviours": {
        "is_behaviour": "(value)", "log_of": "(alphabet, *words)", "logs_from": "(alphabet, words)",
        "behaviour_of": "(alphabet, *edges)", "behaviour_from": "(alphabet, edges)", "is_run": "(behaviour, value)",
        "states_after": "(behaviour, word)", "followers": "(behaviour, word)", "runs": "(behaviour, *, longest)",
        "seen_steps": "(behaviour, *, longest)", "settled": "(behaviour)", "united": "(first, *others)",
        "all_united": "(behaviours)", "run_difference": "(first, second)",
    },
    "leastnet.seen.circles": {
        "points_of": "(behaviour, action)", "all_points": "(behaviour)", "rays_of": "(behaviour)",
        "is_circle": "(behaviour, run, value)",
    },
    "leastnet.seen.respect": {
        "least_tokens": "(behaviour, place)", "respects": "(behaviour, place)", "respect_paper": "(behaviour, place)",
        "is_respect_paper": "(behaviour, place, value)",
    },
    "leastnet.hulls.simplex": {
        "hull_paper": "(points, rays, x)", "is_hull_paper": "(points, rays, x, value)", "is_inside": "(points, rays, x)",
        "greatest": "(points, rays, u)", "in_cone": "(rays, x)",
    },
    "leastnet.hulls.faces": {
        "faces": "(points, rays)", "holds_for": "(description, x)", "is_faces": "(points, rays, value)",
        "corners": "(points, rays)", "dimension": "(points, rays)", "part_paper": "(first, second)",
        "is_part_paper": "(first, second, value)",
    },
    "leastnet.steps.steps": {
        "step_paper": "(behaviour, counts, action)", "is_step_paper": "(behaviour, counts, action, value)",
        "is_unavoidable_step": "(behaviour, counts, action)", "place_of_bound": "(behaviour, action, u, v)",
        "is_unavoidable": "(behaviour, word)", "word_paper": "(behaviour, word)",
        "is_word_paper": "(behaviour, word, value)", "unavoidable_followers": "(behaviour, word)",
    },
    "leastnet.steps.least": {
        "least_net": "(behaviour)", "unavoidable_words": "(behaviour, *, longest)",
        "count_unavoidable": "(behaviour, *, longest)", "net_respects": "(behaviour, net)",
        "net_paper": "(behaviour, net)",
    },
    "leastnet.steps.plain": {
        "plain_paper": "(behaviour, counts, action)", "is_plain_paper": "(behaviour, counts, action, value)",
        "is_plainly_unavoidable": "(behaviour, word)", "plain_net": "(behaviour)",
        "first_plain_difference": "(behaviour, *, longest)",
    },
    "leastnet.compare.covers": {
        "covers": "(first, second)", "cover_paper": "(first, second)", "is_cover_paper": "(first, second, value)",
        "have_same_rules": "(first, second)",
    },
    "leastnet.compare.wishes": {
        "barring": "(behaviour, *words)", "barring_all": "(behaviour, words)",
        "is_barring": "(behaviour, words, value)", "thinned": "(behaviour, net, words)",
    },
    "leastnet.compare.sums": {
        "least_sum": "(behaviour, u, *, before=None)", "is_least_sum": "(behaviour, u, value, *, before=None)",
        "strictest_place": "(behaviour, u)", "told_sums": "(behaviour)", "told_value": "(behaviour, u, state)",
    },
    "leastnet.exact.exact": {
        "exact_paper": "(behaviour)", "is_exact_paper": "(behaviour, value)", "has_exact_net": "(behaviour)",
    },
    "leastnet.learner.learner": {"Learner": "(alphabet, **logs)"},
    "leastnet.text.formats": {
        "format_word": "(alphabet, word)", "parse_word": "(alphabet, text)", "format_vector": "(vector)",
        "parse_vector": "(text)", "format_fraction": "(fraction)", "parse_fraction": "(text)",
        "format_place": "(alphabet, place)", "parse_place": "(alphabet, text)", "format_net": "(net)",
        "parse_net": "(text)", "format_behaviour": "(behaviour)", "parse_behaviour": "(text)",
        "format_step_paper": "(alphabet, paper)", "marking_table": "(net, word)",
    },
    "leastnet.text.shell": {"Shell": "(alphabet)"},
}
CLASSES = {
    "leastnet.nets.nets.Net": {
        "of": "(alphabet, places)", "bound": "(alphabet, action, most)", "__call__": "(self, word)", "barred": "(self, word)",
        "enabled": "(self, word)", "runs": "(self, *, longest=4)", "graph": "(self, *, most=150)", "__and__": "(self, other)",
        "__contains__": "(self, value)", "__eq__": "(self, other)", "__bool__": "(self)", "__len__": "(self)",
        "__str__": "(self)",
    },
    "leastnet.learner.learner.Learner": {
        "of": "(alphabet, logs)", "set_longest": "(self, value)", "put": "(self, name, *words)",
        "put_all": "(self, name, words)", "graph": "(self, name, behaviour)", "drop": "(self, name)",
        "apply": "(self, *edits)", "apply_all": "(self, edits)", "undo": "(self, *, many=1)",
        "redo": "(self, *, many=1)", "watch": "(self, word)", "unwatch": "(self, word)", "__call__": "(self, word)",
        "paper": "(self, word)", "net": "(self)", "bar": "(self, *words)", "during": "(self, edits, call)",
        "__contains__": "(self, value)", "__len__": "(self)", "__bool__": "(self)", "__eq__": "(self, other)",
        "__str__": "(self)",
    },
    "leastnet.text.shell.Shell": {
        "run": "(self, line)", "answers": "(self, *lines)", "learner": "(self)", "__len__": "(self)",
        "__contains__": "(self, value)", "__eq__": "(self, other)", "__str__": "(self)",
    },
}
PROPERTIES = {
    "leastnet.nets.nets.Net": ("alphabet", "places"),
    "leastnet.learner.learner.Learner": ("alphabet", "logs", "seen", "watched", "edits", "longest"),
}
AT_ONCE = {"range", "zip", "enumerate", "reversed", "map"}
VIEWS = {"items", "keys", "values"}
ITERATING = {"list", "tuple", "dict", "sorted", "sum", "min", "max", "any", "all", "enumerate", "zip", "len", "join"}
CHANGING = {
    "append", "clear", "extend", "insert", "pop", "remove", "reverse", "setdefault", "update", "add", "discard",
}
NO_ATTRIBUTES = {
    "items", "keys", "values", "pop", "update", "append", "clear", "extend", "insert", "remove", "reverse", "setdefault",
    "sort", "args", "encode", "decode", "hex", "fromhex", "format", "register", "mro", "elements", "open", "input",
}


def tree_of(path):
    """Return the syntax tree of a file."""
    return ast.parse(path.read_text(encoding="utf-8"))


def module_of(path):
    """Return the full name of a file's module."""
    parts = path.relative_to(TOP).with_suffix("").parts
    return ".".join(parts[:-1] if parts[-1] == "__init__" else parts)


def defined_in(path):
    """Return the names that a file defines at module level."""
    names = []
    for node in tree_of(path).body:
        if isinstance(node, (ast.FunctionDef, ast.ClassDef)):
            names.append(node.name)
        elif isinstance(node, ast.Assign):
            names.extend(target.id for target in node.targets)
    return names


def bound_in(path):
    """Return the names that a file binds at module level, those of imports included."""
    imported = [node for node in tree_of(path).body if isinstance(node, ast.ImportFrom)]
    return [name.name for node in imported for name in node.names] + defined_in(path)


def local_names(function):
    """Return the names of parameters and local variables of a function."""
    names = [node.arg for node in ast.walk(function) if isinstance(node, ast.arg)]
    return names + [node.id for node in ast.walk(function) if isinstance(node, ast.Name) and isinstance(node.ctx, ast.Store)]


class Rules(unittest.TestCase):
    def nodes(self, *kinds):
        """Return the pairs of a file and a node of these kinds, of all files."""
        return [(path, node) for path in FILES for node in ast.walk(tree_of(path)) if isinstance(node, kinds)]

    def none(self, found):
        """Nothing was found; else files and lines are told."""
        self.assertEqual([(str(path.relative_to(TOP)), getattr(node, "lineno", node)) for path, node in found], [])


class Folders(Rules):
    def test_files(self):
        for path in PACKAGE.rglob("*"):
            if "__pycache__" in path.parts:
                continue
            self.assertTrue(path.is_dir() or path.suffix == ".py", path)
            self.assertRegex(path.stem, r"\A([a-z][a-z0-9_]*|__init__|__main__)\Z")
            self.assertTrue(not path.is_dir() or (path / "__init__.py").is_file(), path)
            self.assertNotIn(path.stem, {*LIBRARY, *dir(builtins), "test", "tests", "testing", "site", "conftest"})
            self.assertFalse(path.is_file() and path.with_suffix("").is_dir(), path)
        self.assertTrue((PACKAGE / "__init__.py").is_file())
        self.assertTrue(len(FILES) <= 100)

    def test_sizes(self):
        for path in FILES:
            lines = path.read_text(encoding="utf-8").split("\n")
            self.assertTrue(len(lines) <= 400, path)
            self.none([(path, at) for at, line in enumerate(lines, 1) if len(line) > 120])
        self.none([(path, node) for path, node in self.nodes(ast.FunctionDef) if node.end_lineno - node.lineno >= 40])

    def test_characters(self):
        for path in FILES:
            text = path.read_bytes()
            self.assertEqual([one for one in text if one != 10 and not 32 <= one <= 126], [], path)


class Imports(Rules):
    def test_forms(self):
        self.none(self.nodes(ast.Import))
        for path, node in self.nodes(ast.ImportFrom):
            self.assertEqual(node.level, 0)
            for name in node.names:
                self.assertIsNone(name.asname, path)
                if node.module in LIBRARY:
                    self.assertIn(name.name, LIBRARY[node.module])
                else:
                    self.assertEqual(node.module.split(".")[0], "leastnet", path)
                    source = TOP.joinpath(*node.module.split(".")).with_suffix(".py")
                    self.assertIn(name.name, defined_in(source), path)

    def tops(self, path):
        """Return the imports at the top of a file."""
        body = [node for node in tree_of(path).body if not isinstance(node, ast.Expr)]
        many = 0
        while many < len(body) and isinstance(body[many], ast.ImportFrom):
            many += 1
        return body[:many]

    def test_at_the_top(self):
        for path in FILES:
            imports = [node for node in ast.walk(tree_of(path)) if isinstance(node, (ast.Import, ast.ImportFrom))]
            self.assertEqual(len(imports), len(self.tops(path)), path)

    def test_no_circles(self):
        needs = {module_of(path): set() for path in FILES}
        for path, node in self.nodes(ast.ImportFrom):
            if node.module in needs:
                needs[module_of(path)].add(node.module)
        while needs:
            free = [name for name in needs if not needs[name] & set(needs)]
            self.assertTrue(free, needs)
            needs = {name: more for name, more in needs.items() if name not in free}


class Syntax(Rules):
    def test_statements(self):
        found = self.nodes(ast.stmt)
        self.none([(path, node) for path, node in found if not isinstance(node, STATEMENTS)])
        self.none(self.nodes(ast.Await, ast.AsyncFunctionDef, ast.Global, ast.Div, ast.MatMult))

    def test_module_level(self):
        for path in FILES:
            for node in tree_of(path).body:
                plain = isinstance(node, (ast.ImportFrom, ast.FunctionDef, ast.ClassDef, ast.Assign))
                self.assertTrue(plain or isinstance(node.value, ast.Constant), (path, node.lineno))
                if isinstance(node, ast.Assign):
                    self.assertEqual([target.__class__ for target in node.targets], [ast.Name])
                    self.assertEqual([one for one in ast.walk(node.value) if isinstance(one, (ast.Call, ast.comprehension))], [])

    def test_one_binding(self):
        for path in FILES:
            names = bound_in(path)
            self.assertEqual(sorted(names), sorted(set(names)), path)

    def test_decorators(self):
        self.none([(path, node) for path, node in self.nodes(ast.ClassDef) if node.decorator_list])
        allowed = {"property", "staticmethod", "classmethod"}
        for path, node in self.nodes(ast.FunctionDef):
            for one in node.decorator_list:
                self.assertTrue(one.id in allowed if isinstance(one, ast.Name) else one.attr == "setter", (path, node.lineno))

    def test_values(self):
        for path, node in self.nodes(ast.Constant):
            self.assertIn(node.value.__class__, (int, str, bytes, bool, None.__class__), (path, node.lineno))
            if isinstance(node.value, str):
                self.assertNotIn("%", node.value, (path, node.lineno))

    def test_is(self):
        for path, node in self.nodes(ast.Compare):
            sides = [node.left, *node.comparators]
            if any(isinstance(sign, (ast.Is, ast.IsNot)) for sign in node.ops):
                self.assertTrue(any(isinstance(side, ast.Constant) and side.value in (None, True, False) for side in sides))

    def test_errors_caught(self):
        for path, node in self.nodes(ast.ExceptHandler):
            self.assertIsNotNone(node.type, (path, node.lineno))
            names = [one.id for one in ast.walk(node.type) if isinstance(one, ast.Name)]
            barred = {"Exception", "TypeError", "ArithmeticError", "OverflowError", "RuntimeError", "AttributeError"}
            self.assertEqual(barred & {*names}, set(), (path, node.lineno))

    def test_errors_raised(self):
        for path, node in self.nodes(ast.Raise):
            made = node.exc is None or isinstance(node.exc, ast.Call) and isinstance(node.exc.func, ast.Name)
            self.assertTrue(made, (path, node.lineno))

    def test_sets(self):
        kinds = (ast.Set, ast.SetComp)
        for path in FILES:
            whole = tree_of(path)
            used = [one for node in ast.walk(whole) if isinstance(node, ast.Call) and isinstance(node.func, ast.Name)
                    and node.func.id in ("sorted", "len") for one in node.args]
            used += [one for node in ast.walk(whole) if isinstance(node, ast.Compare) for one in node.comparators]
            used += [node.value for node in ast.walk(whole) if isinstance(node, ast.Assign)]
            for node in ast.walk(whole):
                made = isinstance(node, ast.Call) and isinstance(node.func, ast.Name) and node.func.id == "set"
                self.assertTrue(not (made or isinstance(node, kinds)) or node in used, (path, node))


class Names(Rules):
    def test_builtins(self):
        for path, node in self.nodes(ast.Name):
            if node.id in vars(builtins) and isinstance(node.ctx, ast.Load):
                self.assertIn(node.id, BUILTINS, (path, node.lineno))

    def test_nothing_hides_a_builtin(self):
        for path, node in self.nodes(ast.FunctionDef):
            self.assertEqual([name for name in local_names(node) if name in vars(builtins)], [], (path, node.name))
        for path in FILES:
            self.assertEqual([name for name in bound_in(path) if name in vars(builtins)], [], path)

    def test_locals_hide_no_import(self):
        for path, node in self.nodes(ast.FunctionDef):
            whole = tree_of(path)
            barred = {name.name for one in whole.body if isinstance(one, ast.ImportFrom) for name in one.names}
            barred |= {one.name for one in whole.body if isinstance(one, ast.ClassDef)}
            self.assertEqual(barred & set(local_names(node)), set(), (path, node.name))

    def test_plain_names(self):
        for path in FILES:
            whole = tree_of(path)
            names = [node.id for node in ast.walk(whole) if isinstance(node, ast.Name)]
            names += [node.attr for node in ast.walk(whole) if isinstance(node, ast.Attribute)]
            names += [node.arg for node in ast.walk(whole) if isinstance(node, ast.arg)]
            names += [node.name for node in ast.walk(whole) if isinstance(node, (ast.FunctionDef, ast.ClassDef))]
            for name in names:
                self.assertNotIn(name, NOT_USED, path)
                if name.startswith("__"):
                    self.assertIn(name[2:-2], DOUBLES | {"class", "name", "slots"}, path)

    def test_methods(self):
        own = {node.name for _, node in self.nodes(ast.FunctionDef)}
        own |= {node.attr for _, node in self.nodes(ast.Attribute) if isinstance(node.ctx, ast.Store)}
        for path, node in self.nodes(ast.Attribute):
            self.assertIn(node.attr, METHODS | own | {"__class__", "__name__", "setter"}, (path, node.lineno))

    def test_annotations(self):
        self.none([(path, node) for path, node in self.nodes(ast.arg) if node.annotation is not None])


def called(node):
    """Return the name of what a call calls, or None."""
    if not isinstance(node, ast.Call):
        return None
    return getattr(node.func, "id", getattr(node.func, "attr", None))


def parents_of(whole):
    """Return a dict from the nodes of a tree to their parents."""
    return {child: node for node in ast.walk(whole) for child in ast.iter_child_nodes(node)}


def is_iterated(node, parent):
    """Tell whether a value is iterated over on the spot."""
    if isinstance(parent, (ast.For, ast.comprehension)):
        return parent.iter is node
    return called(parent) in ITERATING or called(parent) == "reversed" and called(node) == "range"


class Flow(Rules):
    def test_iterated_at_once(self):
        for path in FILES:
            whole = tree_of(path)
            parents = parents_of(whole)
            for node in ast.walk(whole):
                plain = isinstance(node, ast.Call) and isinstance(node.func, ast.Name) and node.func.id in AT_ONCE
                view = isinstance(node, ast.Call) and isinstance(node.func, ast.Attribute) and node.func.attr in VIEWS
                if plain or view:
                    self.assertTrue(is_iterated(node, parents[node]), (path, node.lineno))

    def generators(self):
        """Return the names of the functions that yield."""
        return {
            node.name for _, node in self.nodes(ast.FunctionDef)
            if any(isinstance(one, (ast.Yield, ast.YieldFrom)) for one in ast.walk(node))
        }

    def test_generators(self):
        names = self.generators()
        for path, node in self.nodes(ast.FunctionDef):
            yields = any(isinstance(one, (ast.Yield, ast.YieldFrom)) for one in ast.walk(node))
            self.assertEqual(yields, node.name in names, (path, node.name))
        for path in FILES:
            whole = tree_of(path)
            parents = parents_of(whole)
            for node in ast.walk(whole):
                if isinstance(node, ast.Name) and node.id in names or isinstance(node, ast.Attribute) and node.attr in names:
                    call = parents[node]
                    self.assertTrue(isinstance(call, ast.Call) and is_iterated(call, parents[call]), (path, node.lineno))
                if isinstance(node, (ast.Yield, ast.YieldFrom)):
                    self.assertIsInstance(parents[node], ast.Expr, (path, node.lineno))

    def test_no_generator_expressions(self):
        # With an own __eq__ they may stand in hardly any place.
        self.none(self.nodes(ast.GeneratorExp))

    def test_no_sort(self):
        self.none([(path, node) for path, node in self.nodes(ast.Attribute) if node.attr == "sort"])

    def test_stars_in_calls(self):
        for path, node in self.nodes(ast.Call):
            self.assertEqual([one for one in node.keywords if one.arg is None], [], (path, node.lineno))
            for one in node.args:
                if isinstance(one, ast.Starred):
                    self.assertIsInstance(one.value, ast.Name, (path, node.lineno))

    def test_nothing_is_changed_while_it_is_iterated(self):
        for path, node in self.nodes(ast.For):
            names = {one.id for one in ast.walk(node.iter) if isinstance(one, ast.Name)}
            for one in ast.walk(ast.Module(body=node.body, type_ignores=[])):
                if called(one) in CHANGING and isinstance(one.func, ast.Attribute) and isinstance(one.func.value, ast.Name):
                    self.assertNotIn(one.func.value.id, names, (path, one.lineno))
                if isinstance(one, ast.Subscript) and isinstance(one.ctx, ast.Store) and isinstance(one.value, ast.Name):
                    self.assertNotIn(one.value.id, names, (path, one.lineno))

    def test_stored_sets(self):
        for path, function in self.nodes(ast.FunctionDef):
            for node in ast.walk(function):
                made = isinstance(node, ast.Assign) and (isinstance(node.value, (ast.Set, ast.SetComp)) or called(node.value) == "set")
                if not made:
                    continue
                name = node.targets[0].id
                parents = parents_of(function)
                for one in ast.walk(function):
                    if isinstance(one, ast.Name) and one.id == name and isinstance(one.ctx, ast.Load):
                        parent = parents[one]
                        used = called(parent) in ("len", "sorted") or isinstance(parent, ast.Compare)
                        used = used or isinstance(parent, ast.Attribute) and parent.attr in ("add", "discard")
                        self.assertTrue(used, (path, one.lineno))

    def test_attributes(self):
        for path, node in self.nodes(ast.Attribute):
            if isinstance(node.ctx, ast.Store):
                self.assertNotIn(node.attr, NO_ATTRIBUTES, (path, node.lineno))
                self.assertIsInstance(node.value, ast.Name, (path, node.lineno))
                self.assertNotIn(node.value.id, bound_in(path), (path, node.lineno))

    def test_attributes_are_no_methods(self):
        stored = {node.attr for _, node in self.nodes(ast.Attribute) if isinstance(node.ctx, ast.Store)}
        methods = {node.name for _, one in self.nodes(ast.ClassDef) for node in one.body if isinstance(node, ast.FunctionDef)}
        self.assertEqual(stored & methods, set())

    def test_names_of_class_methods_and_properties(self):
        stored = {node.attr for _, node in self.nodes(ast.Attribute) if isinstance(node.ctx, ast.Store)}
        kinds = {"classmethod": set(), "property": set(), "plain": set()}
        for _, one in self.nodes(ast.ClassDef):
            for node in one.body:
                if isinstance(node, ast.FunctionDef):
                    shown = [getattr(made, "id", "property") for made in node.decorator_list] or ["plain"]
                    kinds[shown[0]].add(node.name)
                elif isinstance(node, ast.Assign):
                    kinds["plain"].add(node.targets[0].id)
        for first, second in (("classmethod", "property"), ("classmethod", "plain"), ("property", "plain")):
            self.assertEqual(kinds[first] & kinds[second], set())
        self.assertEqual((kinds["classmethod"] | kinds["property"]) & (stored | METHODS), set())

    def test_operators_and_properties_change_nothing(self):
        functions = {}
        for _, node in self.nodes(ast.FunctionDef):
            functions.setdefault(node.name, []).append(node)
        todo = []
        for _, node in self.nodes(ast.FunctionDef):
            shown = [getattr(one, "id", None) for one in node.decorator_list]
            if node.name[:2] == "__" and node.name not in ("__init__", "__call__") or "property" in shown:
                todo.append(node)
        seen = []
        while todo:
            node = todo.pop()
            if node in seen:
                continue
            seen.append(node)
            created = {one.targets[0].id for one in ast.walk(node) if isinstance(one, ast.Assign) and isinstance(one.targets[0], ast.Name)}
            for one in ast.walk(node):
                if isinstance(one, ast.Call) and called(one) in functions and called(one) not in METHODS:
                    todo.extend(functions[called(one)])
                if isinstance(one, (ast.Attribute, ast.Subscript)) and isinstance(one.ctx, (ast.Store, ast.Del)):
                    self.assertIsInstance(one, ast.Subscript, (node.name, one.lineno))
                    self.assertIn(one.value.id, created, (node.name, one.lineno))
                if called(one) in CHANGING and isinstance(one.func, ast.Attribute):
                    self.assertIn(one.func.value.id, created, (node.name, one.lineno))
        self.assertIn("is_sum", [node.name for node in seen])

    def test_classes(self):
        for path, node in self.nodes(ast.ClassDef):
            for one in node.body:
                plain = isinstance(one, (ast.FunctionDef, ast.Expr)) or isinstance(one.value, ast.Constant)
                self.assertTrue(plain, (path, one.lineno))


class Interface(unittest.TestCase):
    def test_classes(self):
        for full, methods in CLASSES.items():
            module, name = full.rsplit(".", 1)
            found = getattr(import_module(module), name)
            for method, wanted in methods.items():
                self.assertIn(method, found.__dict__)
                self.assertEqual(str(inspect.signature(getattr(found, method))), wanted, method)
        for full, names in PROPERTIES.items():
            module, name = full.rsplit(".", 1)
            found = getattr(import_module(module), name)
            for one in names:
                self.assertIsInstance(found.__dict__[one], property)

    def test_signatures(self):
        for module, functions in INTERFACE.items():
            for name, wanted in functions.items():
                found = getattr(import_module(module), name)
                self.assertEqual(str(inspect.signature(found)), wanted, name)

    def test_defined_where_listed(self):
        for module, functions in INTERFACE.items():
            path = TOP.joinpath(*module.split(".")).with_suffix(".py")
            for name in functions:
                self.assertIn(name, defined_in(path))
                self.assertEqual(getattr(import_module(module), name).__module__, module)

    def test_every_file_can_be_imported(self):
        for path in FILES:
            import_module(module_of(path))


if __name__ == "__main__":
    unittest.main()
