"""The rules of LANGUAGE.md that a short test can see, over the files of the package."""

import ast
import os
import unittest
import warnings

TOP = os.path.dirname(os.path.dirname(os.path.abspath(__file__)))
FOLDER = os.path.join(TOP, "waitlists")


def package_files():
    """Return the paths of all entries of the package's folder; Python's own cache is not part of it."""
    paths = []
    for folder, folders, names in os.walk(FOLDER):
        folders[:] = sorted(name for name in folders if name != "__pycache__")
        paths += [os.path.join(folder, name) for name in sorted(names)]
    return paths


def read(path):
    """Return the bytes of a file."""
    with open(path, "rb") as file:
        return file.read()


class FilesTest(unittest.TestCase):

    def test_folder_holds_python_files_alone(self):
        names = [os.path.relpath(path, FOLDER) for path in package_files()]
        for name in names:
            self.assertRegex(name, r"^[a-z_][a-z0-9_]*\.py$")
        for name in ("__init__.py", "errors.py", "runs.py", "order.py", "lists.py", "labels.py", "nets.py", "needs.py",
                     "reasons.py", "proposals.py", "openings.py", "texts.py", "desk.py"):
            self.assertIn(name, names)

    def test_characters(self):
        for path in package_files():
            wrong = [code for code in read(path) if code != 10 and not 32 <= code <= 126]
            self.assertEqual(wrong, [], path)

    def test_size_of_files_and_lines(self):
        for path in package_files():
            lines = read(path).decode("ascii").splitlines()
            self.assertLessEqual(len(lines), 399, path)
            for number, line in enumerate(lines, start=1):
                self.assertLessEqual(len(line), 120, (path, number))

    def test_size_of_functions(self):
        many = 0
        for path in package_files():
            for part in ast.walk(ast.parse(read(path))):
                if isinstance(part, ast.FunctionDef):
                    many += 1
                    self.assertLessEqual(part.end_lineno - part.lineno + 1, 40, (path, part.name))
        self.assertGreater(many, 15)

    def test_no_warnings(self):
        with warnings.catch_warnings():
            warnings.simplefilter("error")
            for path in package_files():
                compile(read(path), path, "exec")

    def test_imports_are_from_the_package(self):
        for path in package_files():
            for part in ast.walk(ast.parse(read(path))):
                self.assertNotIsInstance(part, ast.Import, path)
                if isinstance(part, ast.ImportFrom):
                    self.assertEqual(part.level, 0, path)
                    self.assertIn(part.module.split(".")[0], ("waitlists", "heapq"), path)

    def test_interface_is_defined_in_its_files(self):
        for name, expected in (
                ("runs", ["is_nodes", "is_run", "messages_of", "open_index", "send_index"]),
                ("order", ["first_early_open", "happens_before", "is_causal", "is_path", "past_events", "path_between",
                           "same_past"]),
                ("lists", ["known_counts", "label_of_message", "waitlist_of"]),
                ("labels", ["is_label", "label_after_open", "label_after_send", "start_label"]), ("nets", ["Net"]),
                ("needs", ["is_needing_run", "needing_run"]), ("reasons", ["is_reason", "reason_for"]),
                ("proposals", ["harmful_run", "missing_pairs", "spare_pairs"]),
                ("openings", ["closed_messages", "count_openings", "is_opening", "longest_run", "longest_size",
                              "next_opens", "nth_opening"]),
                ("texts", ["read_pairs", "read_run", "show_pairs", "show_run"]), ("desk", ["Desk"])):
            body = ast.parse(read(os.path.join(FOLDER, name + ".py"))).body
            defined = [part.name for part in body if isinstance(part, (ast.FunctionDef, ast.ClassDef))]
            self.assertEqual(sorted(set(expected) - set(defined)), [], name)


if __name__ == "__main__":
    unittest.main()
