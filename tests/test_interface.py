"""That the names of the document's interface stand in their files, with their arguments, and nothing is exported twice."""

import ast
import inspect
import unittest
from importlib import import_module
from pathlib import Path

PACKAGE = Path(__file__).resolve().parent.parent / "boxclose"

DOORS = {
    "nets": {
        "opened": ["net", "drawn"],
        "closed": ["net", "drawn"],
        "free": ["net", "drawn"],
        "draw": ["net", "drawn", "side"],
        "floor_net": ["rows", "columns"],
    },
    "worths": {
        "worth": ["net", "drawn"],
        "best": ["net", "drawn"],
    },
    "lines": {
        "led": ["net", "drawn", "sides"],
        "best_plays": ["net", "drawn"],
        "play_by": ["net", "drawn", "number"],
    },
    "plans": {
        "judged": ["net", "drawn", "least"],
    },
    "endings": {
        "ending": ["chains", "rings"],
        "openings": ["chains", "rings"],
        "ending_net": ["chains", "rings"],
        "reply": ["kind", "length", "chains", "rings"],
    },
    "joining": {
        "renamed": ["net", "order"],
        "beside": ["net", "other"],
    },
}


class Interface(unittest.TestCase):
    def test_each_door_stands_in_its_file_with_its_arguments(self):
        for file, doors in DOORS.items():
            module = import_module("boxclose." + file)
            for name, arguments in doors.items():
                door = getattr(module, name)
                self.assertTrue(inspect.isfunction(door), name)
                self.assertEqual(door.__module__, "boxclose." + file)
                self.assertEqual(list(inspect.signature(door).parameters), arguments)

    def test_doors_take_their_arguments_by_name(self):
        nets = import_module("boxclose.nets")
        self.assertEqual(nets.draw(net=(1, [(-1, 0)]), drawn=[], side=0), ([0], 1))
        self.assertEqual(nets.floor_net(rows=1, columns=1), (1, [(-1, 0)] * 4))
        lines = import_module("boxclose.lines")
        self.assertEqual(lines.led(net=(1, [(-1, 0)]), drawn=[], sides=[0]), (1, 0, 0))
        self.assertEqual(lines.play_by(net=(1, [(-1, 0)]), drawn=[], number=0), [0])
        plans = import_module("boxclose.plans")
        self.assertEqual(plans.judged(net=(1, [(-1, 0)]), drawn=[], least=1).plan, [([], 0)])
        endings = import_module("boxclose.endings")
        self.assertEqual(endings.ending(chains=[3], rings=[]), -3)
        self.assertEqual(endings.reply(kind="ring", length=4, chains=[3], rings=[]), "all")
        joining = import_module("boxclose.joining")
        self.assertEqual(joining.renamed(net=(1, [(-1, 0)]), order=[0]), (1, [(-1, 0)]))
        self.assertEqual(joining.beside(net=(1, [(-1, 0)]), other=(1, [(-1, 0)])), (2, [(-1, 0), (-1, 1)]))

    def test_answers_stand_in_their_file_with_their_own_methods(self):
        answers = import_module("boxclose.answers")
        self.assertEqual(answers.Answer.__bases__, (object,))
        for kind in (answers.Gets, answers.Held):
            self.assertEqual(kind.__bases__, (answers.Answer,))
            self.assertEqual(kind.__module__, "boxclose.answers")
            self.assertEqual(list(inspect.signature(kind).parameters), ["plan"])
            self.assertTrue(inspect.isfunction(vars(kind)["shows"]))
            self.assertEqual(list(inspect.signature(kind.shows).parameters), ["self", "net", "drawn", "least"])
            self.assertEqual(vars(kind(plan=[([], 0)])), {"plan": [([], 0)]})
            self.assertIs(kind([]).shows(net=(1, [(-1, 0)]), drawn=[0], least=0), kind is answers.Gets)


class Files(unittest.TestCase):
    """The rules of ../shared/LANGUAGE.md that are plain to count."""

    def files(self):
        for path in sorted(PACKAGE.rglob("*.py")):
            text = path.read_text(encoding="utf-8")
            yield path.name, text, ast.parse(text)

    def test_the_package_holds_python_files_alone(self):
        names = [path.name for path in PACKAGE.iterdir() if path.name != "__pycache__"]
        self.assertEqual([name for name in names if not name.endswith(".py")], [])
        self.assertIn("__init__.py", names)

    def test_characters_and_sizes(self):
        for name, text, _ in self.files():
            lines = text.split("\n")
            self.assertTrue(all(sign == "\n" or " " <= sign <= "~" for sign in text), name)
            self.assertLessEqual(len(lines), 400, name)
            self.assertLessEqual(max(len(line) for line in lines), 120, name)

    def test_functions_are_short_and_plain(self):
        for name, _, tree in self.files():
            for node in ast.walk(tree):
                if isinstance(node, (ast.FunctionDef, ast.ClassDef)):
                    self.assertEqual(node.decorator_list, [], name)
                if isinstance(node, ast.FunctionDef):
                    self.assertLessEqual(node.end_lineno - node.lineno + 1, 40, f"{name}: {node.name}")

    def test_imports_are_of_the_package_and_from_the_defining_file(self):
        trees = {"boxclose." + name[:-3]: tree for name, _, tree in self.files()}
        for name, tree in trees.items():
            for node in ast.walk(tree):
                self.assertNotIsInstance(node, ast.Import, name)
                if isinstance(node, ast.ImportFrom):
                    self.assertIn(node.module, trees, name)
                    for taken in node.names:
                        self.assertIn(taken.name, self.bound(trees[node.module]), name)

    def bound(self, tree):
        """The names that a file defines itself."""
        kinds = (ast.FunctionDef, ast.ClassDef)
        names = [node.name for node in tree.body if isinstance(node, kinds)]
        assigned = [node for node in tree.body if isinstance(node, ast.Assign)]
        return names + [target.id for node in assigned for target in node.targets]

    def test_no_floats_and_no_barred_statements(self):
        barred = (ast.Global, ast.Div, ast.AsyncFunctionDef, ast.Await, ast.Starred)
        for name, _, tree in self.files():
            for node in ast.walk(tree):
                self.assertNotIsInstance(node, barred, name)
                if isinstance(node, ast.Constant):
                    self.assertNotIsInstance(node.value, (float, complex), name)

    def test_no_name_of_pythons_own_is_given_another_meaning(self):
        import builtins
        for name, _, tree in self.files():
            for node in ast.walk(tree):
                if isinstance(node, ast.Name) and isinstance(node.ctx, ast.Store):
                    self.assertFalse(hasattr(builtins, node.id), f"{name}: {node.id}")
                if isinstance(node, (ast.FunctionDef, ast.ClassDef)) and node.name != "__init__":
                    self.assertFalse(hasattr(builtins, node.name), f"{name}: {node.name}")
                if isinstance(node, ast.arg):
                    self.assertFalse(hasattr(builtins, node.arg), f"{name}: {node.arg}")


if __name__ == "__main__":
    unittest.main()
