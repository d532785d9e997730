"""Point 2 (what holds of the whole program), the interface, and the subset of the language."""

import ast
import builtins
import copy
import pathlib
import unittest

from sparewatts import account, book, jobs, journal, judge, levels, planner, plans, plantexts, prices, ratios, rounds
from sparewatts import sleep, tariffs
from sparewatts.errors import BadText
from sparewatts.runner import Runner

PACKAGE = pathlib.Path(__file__).resolve().parent.parent / "sparewatts"
BARRED_NAMES = ("register", "mro", "elements", "law", "attrgetter", "methodcaller", "gc", "os", "sys", "importlib")
LIBRARY = {"math": ("gcd", "lcm", "isqrt", "comb", "perm", "factorial")}

# The interface: the names that each file defines itself, with the parameters of a
# function, and the methods that a class defines itself, with theirs.
INTERFACE = {
    "errors.py": {"WattsError": {}, "BadText": {}, "BadJournal": {}, "Refused": {}, "TooFast": {}},
    "ratios.py": {
        "ratio": ["top", "bottom"],
        "plus": ["a", "b"],
        "minus": ["a", "b"],
        "times": ["a", "b"],
        "over": ["a", "b"],
        "less": ["a", "b"],
        "total": ["ratios"],
    },
    "jobs.py": {"write_jobs": ["jobs"], "read_jobs": ["text"]},
    "plans.py": {
        "fault": ["jobs", "plan"],
        "tidy": ["plan"],
        "speed_at": ["plan", "time"],
        "gaps": ["plan", "begin", "end"],
    },
    "prices.py": {"price_at": ["price", "speed"], "cost": ["plan", "price", "begin", "end"]},
    "rounds.py": {"rounds": ["jobs"], "speeds": ["jobs"], "peak": ["jobs"]},
    "planner.py": {"best_plan": ["jobs"]},
    "judge.py": {"is_least": ["jobs", "plan"], "better": ["jobs", "plan"]},
    "book.py": {"Book": {"__init__": [], "put": ["job"], "drop": ["name"], "jobs": [], "plan": [], "worked": []}},
    "levels.py": {
        "useful": ["levels"],
        "leveled": ["plan", "levels"],
        "level_cost": ["plan", "levels", "begin", "end"],
    },
    "runner.py": {
        "Runner": {
            "__init__": ["cap"],
            "advance": ["time"],
            "offer": ["name", "due", "work"],
            "time": [],
            "taken": [],
            "left": [],
            "done": [],
            "course": [],
            "lines": [],
        }
    },
    "account.py": {"account": ["taken", "done", "rival"]},
    "tariffs.py": {"tariff_cost": ["plan", "tariff", "begin", "end"], "tariff_plan": ["jobs", "tariff"]},
    "sleep.py": {"asleep": ["depths", "length"], "dozing": ["depths"], "doze_cost": ["depths", "length"]},
    "journal.py": {"replay": ["lines"]},
    "plantexts.py": {"write_plan": ["plan"], "read_plan": ["text"]},
}


def sources():
    """The files of the package, each as (name, text, tree)."""
    paths = sorted(path for path in PACKAGE.rglob("*") if "__pycache__" not in path.parts)
    texts = [(path.name, path.read_bytes().decode("ascii")) for path in paths]
    return [(name, text, ast.parse(text)) for name, text in texts]


def definitions(tree):
    """The functions and classes of a file, or the methods of a class, by their names."""
    return {node.name: node for node in tree.body if isinstance(node, (ast.FunctionDef, ast.ClassDef))}


def parameters_of(function):
    return [part.arg for part in function.args.args]


class ArgumentsTest(unittest.TestCase):
    """Callers pass tuples; the lists here would show a change that tuples hide."""

    def assert_kept(self, function, *arguments):
        before = copy.deepcopy(arguments)
        function(*arguments)
        self.assertEqual(arguments, before, function.__name__)

    def test_no_function_modifies_its_arguments(self):
        job_list = [("a", 0, 9, 4), ("b", 0, 9, 1)]
        plan = [((0, 1), (1, 1), "a", (2, 1)), ((1, 1), (2, 1), "a", (2, 1)), ((3, 1), (4, 1), "b", (1, 1))]
        self.assert_kept(ratios.total, [(1, 2), (1, 2)])
        self.assert_kept(jobs.write_jobs, job_list)
        self.assert_kept(plans.fault, job_list, plan)
        self.assert_kept(plans.tidy, plan)
        self.assert_kept(plans.speed_at, plan, (1, 1))
        self.assert_kept(plans.gaps, plan, 0, 9)
        self.assert_kept(prices.price_at, ["table", [(0, 1), (2, 3), (4, 9)]], (3, 1))
        self.assert_kept(prices.cost, plan, ["table", [(0, 1), (2, 3), (4, 9)]], 0, 9)
        self.assert_kept(rounds.rounds, job_list)
        self.assert_kept(rounds.speeds, job_list)
        self.assert_kept(rounds.peak, job_list)
        self.assert_kept(planner.best_plan, job_list)
        self.assert_kept(judge.is_least, job_list, plan)
        self.assert_kept(judge.better, job_list, plan)
        self.assert_kept(levels.useful, [(0, 0), (1, 3), (2, 4)])
        self.assert_kept(levels.leveled, plan, [(0, 0), (3, 4)])
        self.assert_kept(levels.level_cost, plan, [(0, 0), (1, 3), (2, 4)], 0, 9)
        self.assert_kept(account.account, job_list, plan, plan)
        self.assert_kept(book.Book().put, ["a", 0, 9, 4])
        self.assert_kept(tariffs.tariff_cost, plan, [(0, 1), (2, 3)], 0, 9)
        self.assert_kept(tariffs.tariff_plan, job_list, [(0, 1), (2, 3)])
        self.assert_kept(sleep.asleep, [(3, 0), (1, 2), (0, 9)], (5, 1))
        self.assert_kept(sleep.dozing, [(3, 0), (1, 2), (0, 9)])
        self.assert_kept(sleep.doze_cost, [(3, 0), (1, 2), (0, 9)], (5, 1))
        self.assert_kept(journal.replay, ["runner", "offer a 9 4", "advance 3", "adv"])
        self.assert_kept(plantexts.write_plan, plan)


class NumberingTest(unittest.TestCase):
    def test_indexes_start_at_0_and_lines_at_1(self):
        outside = ((0, 1), (2, 1), "a", (1, 1))
        self.assertEqual(plans.fault((("a", 0, 1, 2),), (outside,)), ("window", 0))
        with self.assertRaises(BadText) as caught:
            jobs.read_jobs("wrong\n")
        self.assertEqual(caught.exception.line, 1)

    def test_written_texts_have_only_the_characters_of_texts(self):
        text = jobs.write_jobs((("abcdefgh", 0, 10000, 10000), ("z", 1, 2, 3)))
        text += plantexts.write_plan((((-1, 2), (1, 3), "z", (7, 1)),))
        runner = Runner(999999999)
        runner.offer("abcdefgh", 10000, 10000)
        runner.advance(10000)
        for character in text + "".join(runner.lines()):
            self.assertTrue(character == "\n" or " " <= character <= "~")
        self.assertNotIn("%", text)


class InterfaceTest(unittest.TestCase):
    def test_each_name_is_defined_in_its_own_file_with_its_parameters(self):
        trees = {name: tree for name, _, tree in sources()}
        for name, listed in INTERFACE.items():
            found = definitions(trees[name])
            for word, parameters in listed.items():
                self.assertIn(word, found, name)
                if isinstance(parameters, list):
                    self.assertEqual(parameters_of(found[word]), parameters, word)
                else:
                    self.assert_methods(found[word], parameters)

    def assert_methods(self, node, listed):
        self.assertIsInstance(node, ast.ClassDef)
        found = definitions(node)
        for word, parameters in listed.items():
            self.assertIn(word, found, node.name)
            self.assertEqual(parameters_of(found[word]), ["self", *parameters], word)


class LanguageTest(unittest.TestCase):
    """The rules of the subset that are quickly checked: files, sizes, characters, imports, signs."""

    BARRED = (ast.Div, ast.Global, ast.AsyncFunctionDef, ast.Import)

    def test_the_package_holds_python_files_only(self):
        names = [path.name for path in PACKAGE.rglob("*") if "__pycache__" not in path.parts]
        self.assertIn("__init__.py", names)
        for name in names:
            self.assertRegex(name, r"^[a-z0-9_]+\.py$")

    def test_sizes(self):
        for name, text, tree in sources():
            rows = text.split("\n")
            self.assertLessEqual(len(rows), 399, name)
            self.assertLessEqual(max(len(row) for row in rows), 120, name)
            for node in ast.walk(tree):
                if isinstance(node, ast.FunctionDef):
                    self.assertLessEqual(node.end_lineno - node.lineno + 1, 40, node.name)

    def test_characters(self):
        for name, text, _ in sources():
            for character in text:
                self.assertTrue(character == "\n" or " " <= character <= "~", name)

    def test_strings_and_numbers(self):
        for name, _, tree in sources():
            for node in ast.walk(tree):
                if isinstance(node, ast.Constant):
                    self.assertNotIsInstance(node.value, (float, complex), name)
                    if isinstance(node.value, str):
                        self.assertNotIn("%", node.value, name)

    def test_imports(self):
        defined = {name: set(definitions(tree)) | assigned(tree) for name, _, tree in sources()}
        for name, _, tree in sources():
            for node in ast.walk(tree):
                if not isinstance(node, ast.ImportFrom):
                    continue
                words = {part.name for part in node.names}
                if node.module in LIBRARY:
                    self.assertLessEqual(words, set(LIBRARY[node.module]), name)
                else:
                    package, _, module = node.module.partition(".")
                    self.assertEqual((package, node.level), ("sparewatts", 0), name)
                    self.assertLessEqual(words, defined[module + ".py"], name)

    def test_names(self):
        for name, _, tree in sources():
            imported = {part.name for node in tree.body if isinstance(node, ast.ImportFrom) for part in node.names}
            self.assertFalse(imported & named(tree), name)
            for word in named(tree):
                self.assertFalse(hasattr(builtins, word), f"{name}: {word}")
                self.assertNotIn(word, BARRED_NAMES, name)

    def test_no_two_files_import_from_each_other(self):
        modules = {}
        for name, _, tree in sources():
            words = [node.module for node in ast.walk(tree) if isinstance(node, ast.ImportFrom)]
            modules[name] = {word.partition(".")[2] + ".py" for word in words if word.startswith("sparewatts.")}
        while modules:
            loose = [name for name in modules if not modules[name] & set(modules)]
            self.assertNotEqual(loose, [], f"a ring of imports in {sorted(modules)}")
            for name in loose:
                del modules[name]

    def test_barred_statements_and_signs(self):
        for name, _, tree in sources():
            for node in ast.walk(tree):
                self.assertNotIsInstance(node, self.BARRED, name)


def assigned(tree):
    """The names that a file assigns at module level."""
    return {node.targets[0].id for node in tree.body if isinstance(node, ast.Assign)}


def named(tree):
    """The names that a file gives to its functions, parameters and variables."""
    found = assigned(tree)
    for node in ast.walk(tree):
        if isinstance(node, ast.FunctionDef):
            found.add(node.name)
        elif isinstance(node, ast.arg):
            found.add(node.arg)
        elif isinstance(node, ast.Name) and isinstance(node.ctx, ast.Store):
            found.add(node.id)
    return {word for word in found if not word.startswith("__")}


if __name__ == "__main__":
    unittest.main()
