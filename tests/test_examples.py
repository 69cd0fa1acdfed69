"""The examples of the document, as they stand there, in examples.txt with an empty row between two of them."""

import os
import unittest

from waitlists import errors

FOLDER = os.path.dirname(os.path.abspath(__file__))


def read_examples():
    """Return the examples: the rows of code, and the expected row."""
    with open(os.path.join(FOLDER, "examples.txt"), encoding="ascii") as file:
        blocks = file.read().strip().split("\n\n")
    examples = []
    for block in blocks:
        rows = block.split("\n")
        code = [row[len(">>> "):] for row in rows if row.startswith(">>> ")]
        examples.append((code, [row for row in rows if not row.startswith(">>> ")]))
    return examples


def told_error(error):
    """Return an error as the document writes it: its name, with its own fields in parentheses."""
    fields = ", ".join(f"{name}={value!r}" for name, value in vars(error).items())
    return type(error).__name__ + (f"({fields})" if fields else "")


class ExamplesTest(unittest.TestCase):

    def test_examples(self):
        examples = read_examples()
        self.assertEqual(len(examples), 42)
        for code, expected in examples:
            names = {}
            exec("\n".join(code[:-1]), names)
            try:
                told = repr(eval(code[-1], names))
            except errors.WaitError as error:
                told = "raises " + told_error(error)
            self.assertEqual([told], expected, code)


if __name__ == "__main__":
    unittest.main()
