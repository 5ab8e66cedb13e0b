"""What README.md says of its examples is what they tell."""

import pathlib
import re
import unittest

README = pathlib.Path(__file__).resolve().parent.parent / "README.md"


class Readme(unittest.TestCase):
    def test_examples(self):
        names = {}
        told = 0
        for block in re.findall(r"```python\n(.*?)```", README.read_text(), re.S):
            for row in filter(None, block.split("\n")):
                code, sign, words = row.partition("#")
                if " = " in code or code.startswith("from "):
                    exec(code, names)
                else:
                    self.assertTrue(words.strip().startswith(repr(eval(code, names))), row)
                    told += 1
        self.assertGreater(told, 20)


if __name__ == "__main__":
    unittest.main()
