"""The examples of README.md."""

import pathlib
import unittest

README = pathlib.Path(__file__).resolve().parent.parent / "README.md"


def examples():
    """The lines of the README's Python, each with the value that stands behind it, if one does."""
    code = README.read_text(encoding="utf-8").split("```python\n")[1].split("```")[0]
    for line in code.splitlines():
        statement, sign, told = line.partition("#")
        if statement.strip():
            yield statement.strip(), told.strip() if sign else None


class Readme(unittest.TestCase):
    def test_examples(self):
        known = {}
        seen = 0
        for statement, told in examples():
            if told is None:
                exec(statement, known)
            else:
                # words may follow a value
                value = repr(eval(statement, known))
                self.assertTrue(told == value or told.startswith(value + ":"), (statement, told, value))
                seen += 1
        self.assertGreater(seen, 15)


if __name__ == "__main__":
    unittest.main()
