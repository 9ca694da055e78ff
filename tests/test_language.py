"""How the files of the package are written: the rules of the language that can be seen in a file alone."""

import ast
import builtins
import io
import pathlib
import tokenize
import unittest

FOLDER = pathlib.Path(__file__).resolve().parent.parent / "skipcounts"
FILES = sorted(FOLDER.glob("*.py"))
LIBRARY = {
    "math": {"gcd", "lcm", "isqrt", "comb", "perm", "factorial"},
    "heapq": {"heappush", "heappop", "heapify", "heapreplace", "heappushpop"},
}
BUILTINS = set(
    "len range enumerate zip min max sum abs sorted reversed int str bool list tuple dict set isinstance ord repr any "
    "all divmod super Exception ValueError TypeError KeyError IndexError LookupError ZeroDivisionError RuntimeError "
    "NotImplemented NotImplementedError".split())
METHODS = set(
    "append clear copy count endswith extend find get index insert isalnum isalpha isdigit islower isspace isupper items "
    "join keys ljust lower lstrip partition pop remove replace reverse rfind rjust rpartition rsplit rstrip setdefault "
    "split splitlines startswith strip swapcase update upper values zfill bit_length add discard isascii".split())
STATEMENTS = (
    ast.FunctionDef, ast.ClassDef, ast.Return, ast.Delete, ast.Assign, ast.AugAssign, ast.For, ast.While, ast.If,
    ast.Raise, ast.Assert, ast.Expr, ast.Pass, ast.Break, ast.Continue, ast.ImportFrom)
BARRED_NODES = (
    ast.Try, ast.With, ast.Lambda, ast.GeneratorExp, ast.Yield, ast.YieldFrom, ast.Await, ast.Global, ast.Nonlocal,
    ast.NamedExpr, ast.JoinedStr, ast.Div, ast.Pow, ast.MatMult, ast.Set, ast.Match, ast.AsyncFunctionDef, ast.Import,
    ast.AnnAssign)
BARRED_NAMES = set(
    "register mro elements open input law version_info with_traceback add_note type typing enum Enum Generic Protocol "
    "ABC ABCMeta namedtuple NamedTuple TypedDict attrgetter breakpoint builtins compile copyright credits delattr dir "
    "eval exec exit gc globals help id importlib license locals methodcaller os quit vars sys".split())


def functions_of(tree):
    return [node for node in ast.walk(tree) if isinstance(node, ast.FunctionDef)]


def bound_names(tree):
    """All names that are bound in a file: parameters, targets, functions and classes."""
    for node in ast.walk(tree):
        if isinstance(node, (ast.FunctionDef, ast.ClassDef)):
            yield node.name, node.lineno
        elif isinstance(node, ast.arg):
            yield node.arg, node.lineno
        elif isinstance(node, ast.Name) and not isinstance(node.ctx, ast.Load):
            yield node.id, node.lineno


class Language(unittest.TestCase):
    def trees(self):
        for path in FILES:
            yield path, ast.parse(path.read_text(encoding="utf-8"))

    def test_the_folder_has_files_only(self):
        names = {path.name for path in FOLDER.iterdir()} - {"__pycache__"}
        self.assertEqual(names, {path.name for path in FILES})
        self.assertIn("__init__.py", names)
        for name in names:
            self.assertRegex(name, r"\A([a-z][a-z0-9_]*|__init__)\.py\Z")
            self.assertNotIn(name[:-3], dir(builtins))

    def test_sizes_and_characters(self):
        for path in FILES:
            content = path.read_text(encoding="utf-8")
            self.assertLessEqual(len(content.splitlines()), 399, path)
            for number, line in enumerate(content.split("\n"), 1):
                self.assertLessEqual(len(line), 120, (path, number))
                self.assertTrue(all(" " <= sign <= "~" for sign in line), (path, number))
        for path, tree in self.trees():
            for function in functions_of(tree):
                self.assertLessEqual(function.end_lineno - function.lineno + 1, 40, (path, function.name))

    def test_nodes(self):
        for path, tree in self.trees():
            for node in ast.walk(tree):
                self.assertNotIsInstance(node, BARRED_NODES, (path, getattr(node, "lineno", None)))
                if isinstance(node, ast.stmt):
                    self.assertIsInstance(node, STATEMENTS, (path, node.lineno))
                if isinstance(node, (ast.FunctionDef, ast.ClassDef)):
                    self.assertEqual(node.decorator_list, [], (path, node.lineno))
                if isinstance(node, ast.Starred):
                    self.assertIsInstance(node.value, ast.Name, (path, node.lineno))
                if isinstance(node, ast.Compare):
                    for sign, other in zip(node.ops, node.comparators):
                        if isinstance(sign, (ast.Is, ast.IsNot)):
                            self.assertIsInstance(other, ast.Constant, (path, node.lineno))
                            self.assertIn(other.value, (None, True, False), (path, node.lineno))

    def test_module_level(self):
        for path, tree in self.trees():
            for at, node in enumerate(tree.body):
                if at == 0 and isinstance(node, ast.Expr):
                    self.assertIsInstance(node.value, ast.Constant, path)
                    continue
                self.assertIsInstance(node, (ast.ImportFrom, ast.FunctionDef, ast.ClassDef, ast.Assign), path)
                if isinstance(node, ast.Assign):
                    self.assertEqual(len(node.targets), 1, path)
                    self.assertIsInstance(node.targets[0], ast.Name, path)
                    ast.literal_eval(node.value)

    def test_imports(self):
        uses = {}
        defined = {path.stem: {node.name for node in tree.body if isinstance(node, (ast.FunctionDef, ast.ClassDef))}
                   for path, tree in self.trees()}
        for path, tree in self.trees():
            uses[path.stem] = set()
            seen_other = False
            for node in tree.body:
                if not isinstance(node, ast.ImportFrom):
                    seen_other = seen_other or not isinstance(node, ast.Expr)
                    continue
                self.assertFalse(seen_other, (path, node.lineno))
                self.assertEqual(node.level, 0, path)
                for alias in node.names:
                    self.assertIsNone(alias.asname, path)
                    if node.module in LIBRARY:
                        self.assertIn(alias.name, LIBRARY[node.module], path)
                    else:
                        package, module = node.module.split(".")
                        self.assertEqual(package, "skipcounts", path)
                        self.assertIn(alias.name, defined[module], (path, alias.name))
                        uses[path.stem].add(module)
            names = {node.id for node in ast.walk(tree) if isinstance(node, ast.Name)}
            for node in tree.body:
                if isinstance(node, ast.ImportFrom):
                    for alias in node.names:
                        self.assertIn(alias.name, names, (path, "is not used"))
        done = set()
        while len(done) < len(uses):
            ready = {name for name in uses if uses[name] <= done} - done
            self.assertTrue(ready, "files import from each other")
            done |= ready

    def test_names(self):
        for path, tree in self.trees():
            imports = {alias.name for node in tree.body if isinstance(node, ast.ImportFrom) for alias in node.names}
            classes = {node.name for node in tree.body if isinstance(node, ast.ClassDef)}
            module_level = [node.name for node in tree.body if isinstance(node, (ast.FunctionDef, ast.ClassDef))]
            module_level += [node.targets[0].id for node in tree.body if isinstance(node, ast.Assign)]
            module_level += list(imports)
            self.assertEqual(len(module_level), len(set(module_level)), path)
            for name, line in bound_names(tree):
                self.assertNotIn(name, imports, (path, line))
                self.assertNotIn(name, dir(builtins), (path, line))
                self.assertNotIn(name, BARRED_NAMES, (path, line))
                if name not in ("__init__", "__eq__"):
                    self.assertRegex(name, r"\A(_|_?[A-Za-z][A-Za-z0-9_]*)\Z", (path, line))
            for node in ast.walk(tree):
                if isinstance(node, ast.FunctionDef):
                    for name, line in bound_names(node):
                        self.assertNotIn(name, classes, (path, line))
                if isinstance(node, ast.Name) and isinstance(node.ctx, ast.Load):
                    self.assertNotEqual(node.id, "_", (path, node.lineno))
                    if node.id in dir(builtins):
                        self.assertIn(node.id, BUILTINS, (path, node.lineno))

    def test_barred_words(self):
        for path in FILES:
            with open(path, encoding="utf-8") as file:
                for token in tokenize.generate_tokens(io.StringIO(file.read()).readline):
                    if token.type == tokenize.NAME:
                        self.assertNotIn(token.string, BARRED_NAMES, (path, token.start))
                    if token.type == tokenize.STRING and not token.line.strip().startswith('"""'):
                        self.assertNotIn("%", token.string, (path, token.start))

    def test_methods(self):
        own = set()
        for _, tree in self.trees():
            for node in ast.walk(tree):
                if isinstance(node, ast.ClassDef):
                    own |= {each.name for each in node.body if isinstance(each, ast.FunctionDef)}
        for path, tree in self.trees():
            for node in ast.walk(tree):
                if isinstance(node, ast.Call) and isinstance(node.func, ast.Attribute):
                    self.assertIn(node.func.attr, METHODS | own, (path, node.lineno))
                    self.assertTrue(node.keywords == [] or node.func.attr in own, (path, node.lineno))

    def test_sets_are_not_walked_through(self):
        for path, tree in self.trees():
            let = set()
            for node in ast.walk(tree):
                if isinstance(node, ast.Call) and isinstance(node.func, ast.Name) and node.func.id in ("sorted", "len"):
                    let |= {id(each) for each in node.args}
            for node in ast.walk(tree):
                is_set = isinstance(node, ast.SetComp)
                if isinstance(node, ast.Call) and isinstance(node.func, ast.Name) and node.func.id == "set":
                    is_set = True
                if is_set:
                    self.assertIn(id(node), let, (path, node.lineno))

    def test_calls_of_builtins(self):
        for path, tree in self.trees():
            for node in ast.walk(tree):
                if isinstance(node, ast.Call) and isinstance(node.func, ast.Name):
                    named = {each.arg for each in node.keywords}
                    if node.func.id in ("min", "max"):
                        self.assertLessEqual(named, {"default"}, (path, node.lineno))
                    elif node.func.id == "sorted":
                        self.assertLessEqual(named, {"key", "reverse"}, (path, node.lineno))
                    elif node.func.id == "enumerate":
                        self.assertLessEqual(named, {"start"}, (path, node.lineno))
                    elif node.func.id in BUILTINS:
                        self.assertEqual(named, set(), (path, node.lineno))

    def test_each_listed_name_is_defined_in_its_file(self):
        for module, names in LISTED.items():
            tree = ast.parse((FOLDER / (module + ".py")).read_text(encoding="utf-8"))
            defined = {node.name: node for node in tree.body if isinstance(node, (ast.FunctionDef, ast.ClassDef))}
            for name in names.split():
                self.assertIn(name, defined, module)
                self.assertIsInstance(defined[name], ast.ClassDef if name[0].isupper() else ast.FunctionDef)
        for module, name, methods in METHODS_LISTED:
            tree = ast.parse((FOLDER / (module + ".py")).read_text(encoding="utf-8"))
            for node in tree.body:
                if isinstance(node, ast.ClassDef) and node.name == name:
                    found = {each.name for each in node.body if isinstance(each, ast.FunctionDef)}
                    self.assertLessEqual(set(methods.split()), found)


LISTED = {
    "errors": "SkipError InvalidNumber InvalidText InvalidWord InvalidLetters InvalidList InvalidSum InvalidTable "
              "InvalidRules InvalidMachine InvalidFinite InvalidKept InvalidSaying InvalidLines InvalidDeed Unlike "
              "TooLong TooMany NothingToUndo NothingToRedo",
    "texts": "is_text is_alphabet is_over is_ahead text_number text_numbered texts_of",
    "readings": "count is_reading reading reading_number used counts",
    "sums": "Sum plus times within parting parting_by divisor worths from_worths",
    "differences": "front_part back_part summed moved unmoved",
    "exchanges": "changes inner turn_parting kept_sums",
    "products": "product chosen quotient",
    "primes": "prime_parts prime_words prime_form from_prime_form told_count",
    "tables": "Table table_of joined undone power first_difference root greatest_root table_round",
    "legal": "is_legal from_primes at_primes commutator commutator_form",
    "alike": "depth_alike twist twist_gap without_capitals",
    "rules": "done rules_after led rules_part",
    "again": "worth_again again_row parting_again parting_row zero_paper is_zero_paper rules_growth again_since",
    "registers": "Machine machine_worth counting_machine machine_plus machine_product machine_led",
    "finites": "Finite lets machine_within",
    "partings": "parting_text is_agreeing_paper agreeing_paper parting_rest common_divisor",
    "balances": "deciding_texts balances is_balance",
    "leastmachines": "rank tests row_at basis least_machine order_matters",
    "binomials": "row_value binomial_row row_product signs",
    "machinesums": "machine_number sum_of no_sum_word machine_of",
    "machinepowers": "parting_power",
    "learners": "machine_from",
    "risings": "worths_on rising is_rising",
    "rests": "by_rest rest_states rests_taken how_many_with rest_set first_with",
    "restsets": "expansion told_by marks bar is_bar rest_parts is_rest_parts",
    "powers": "power_row member family_row grid_value grids_part family_grid families_part",
    "kepttexts": "Kept written kept_cut kept_count kept_counts kept_part reached kept_reading kept_reading_number",
    "readatall": "reads read_alike read_likeness parting_word steady_from",
    "leastforms": "ranks can_go least_form steps are_steps",
    "arches": "arches missing how_many_forms form_numbered form_number",
    "rings": "sight seen_forms blind_spot is_blind_spot",
    "chains": "is_condition holds parting_case both_read chain is_chain chain_lets levels finite_of chain_of_finite",
    "toldback": "peeled how_many_texts text_back no_text_paper is_no_text_paper telling_depth",
    "sayings": "is_saying keeps capped_counts saying_machine first_kept parting_saying never_paper is_never_paper",
    "means": "mean means_part arranged_mean unfair below_zero",
    "printer": "line_of",
    "reader": "sum_of_line right_part",
    "book": "Book is_deed",
}
METHODS_LISTED = [
    ("sums", "Sum", "terms degree worth"), ("tables", "Table", "letters depth numbers number"),
    ("registers", "Machine", "letters start tables out"), ("finites", "Finite", "letters moves ends"),
    ("kepttexts", "Kept", "pieces length"),
    ("book", "Book", "text sums worths do undo redo log copy growth quiet shortest_put"),
]
