import ast
import importlib
import inspect
import pathlib
import unittest

from language import faults, faults_of_signs, values_asked, values_given

PACKAGE = pathlib.Path(__file__).resolve().parent.parent / "oncenames"
INTERFACE = {
    "errors": {},
    "programs": {"run": ["program", "given", "many"], "names_of": ["program"]},
    "ways": {"into": ["program"], "masters": ["program"], "around": ["program", "a", "b"]},
    "wanted": {"wanted": ["program"], "want_way": ["program", "block", "name"]},
    "meets": {"joins_of": ["program"], "meet": ["program", "block", "name"]},
    "looker": {"is_good": ["form"]},
    "forms": {"parted": ["program"], "run_form": ["form", "given", "many"]},
    "steps": {"steps": ["form"], "step": ["form", "one"], "tidy": ["form"]},
    "boxes": {"boxes": ["form"], "shows_boxes": ["form", "told"]},
    "ledback": {"led_back": ["form"]},
    "texts": {"show_program": ["program"], "show_form": ["form"], "read_program": ["text"], "read_form": ["text"]},
}
FAULTY = [
    "import sys", "from .errors import NoBlock", "from os.path import join", "x = y = 1", "x = 1\nx = 2",
    "def f(*args): pass", "def f(id): return id", "def f(k): return k / 2", "def f(k): return k is k",
    "def f(k): return sum(x for x in k)", "def f(k): return k.format(3)", "def f(k): return 2 ** k",
    "def f(k): return '%'", "def f(list): return list", "def f(k): return print(k)", "def f(_): return 1",
    "def f(): return 1.5", "class C:\n    many = 1", "def f():\n" + "    pass\n" * 40, "# " + "x" * 119, "\tx = 1",
    "def f(xs):\n    ys = zip(xs, xs)\n    return list(ys)", "def f(d):\n    return d.items()", "# some type", "x = '\u00e4'", "def f(xs):\n    for x in xs:\n        pass\n    else:\n        pass",
]


class Language(unittest.TestCase):
    def files(self):
        return sorted(path for path in PACKAGE.rglob("*") if path.is_file() and "__pycache__" not in path.parts)

    def test_every_file_keeps_to_the_rules(self):
        for path in self.files():
            self.assertEqual(faults(path.read_text(encoding="ascii"), "oncenames"), [], path.name)

    def test_only_plain_python_files_lie_in_the_package(self):
        for path in self.files():
            self.assertRegex(path.name, r"^[a-z][a-z0-9_]*\.py$|^__init__\.py$")

    def test_the_rules_are_looked_at(self):
        for source in FAULTY:
            self.assertNotEqual(faults(source.lstrip("\t"), "oncenames") + faults_of_signs(source), [], source)
        self.assertEqual(faults("def f(xs):\n    return [x + 1 for x in sorted(xs)]\n", "oncenames"), [])

    def test_values_that_are_asked_are_given(self):
        texts = [path.read_text() for path in self.files()]
        given = {value for text in texts for value in values_given(text)}
        self.assertLessEqual({value for text in texts for value in values_asked(text)}, given)

    def test_imports_draw_what_the_other_file_defines_and_never_in_a_ring(self):
        draws = {}
        for path in self.files():
            tree = ast.parse(path.read_text())
            rows = [node for node in tree.body if isinstance(node, ast.ImportFrom)]
            draws[path.stem] = [node.module.split(".")[1] for node in rows]
            for node in rows:
                other = ast.parse((PACKAGE / (node.module.split(".")[1] + ".py")).read_text())
                defined = {each.name for each in other.body if isinstance(each, (ast.FunctionDef, ast.ClassDef))}
                defined |= {each.targets[0].id for each in other.body if isinstance(each, ast.Assign)}
                self.assertLessEqual({each.name for each in node.names}, defined)
        while draws:
            free = [name for name, others in draws.items() if not set(others) & set(draws)]
            self.assertTrue(free, draws)
            draws = {name: others for name, others in draws.items() if name not in free}


class Interface(unittest.TestCase):
    def test_names_and_arguments(self):
        for module, functions in INTERFACE.items():
            for function, arguments in functions.items():
                found = getattr(importlib.import_module(f"oncenames.{module}"), function)
                self.assertEqual(list(inspect.signature(found).parameters), arguments)


if __name__ == "__main__":
    unittest.main()
