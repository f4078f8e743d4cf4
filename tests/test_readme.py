"""What README.md shows is what the program tells."""

import pathlib
import re
import unittest

README = pathlib.Path(__file__).resolve().parent.parent / "README.md"


class TestReadme(unittest.TestCase):
    def test_each_row_with_an_answer(self):
        asked = 0
        for block in re.findall(r"```python\n(.*?)```", README.read_text("utf-8"), re.DOTALL):
            names = {}
            for row in re.split(r"\n(?=\S)(?!except)", block.strip()):
                code, _, answer = row.partition("  # ")
                answer = answer.strip().partition(": ")[0]
                told = answer[:1] in ("[", "(", "T", "F", "'") or answer.isdigit()
                if row.startswith("try") or not told:
                    exec(row, names)
                    continue
                with self.subTest(row=row):
                    self.assertEqual(eval(code.strip(), names), eval(answer))
                    asked += 1
        self.assertGreater(asked, 24)


if __name__ == "__main__":
    unittest.main()
