"""What README.md shows runs, and tells what it says."""

import ast
import contextlib
import io
import pathlib
import re
import unittest

README = pathlib.Path(__file__).parent.parent / "README.md"


class Readme(unittest.TestCase):
    def test_its_rows_run(self):
        code = "\n".join(re.findall(r"```python\n(.*?)```", README.read_text(), re.S))
        names = {}
        with contextlib.redirect_stdout(io.StringIO()):
            exec(code, names)
        self.assertEqual((len(names["asker"]), names["asker"].limit()), (2, 2))
        self.assertEqual(names["desk"].log(), (("begin", 8), ("end", 8)))
        self.assertEqual(len([answer for answer in names["told"] if answer[1] == ("made", "yes", ())]), 3)
        self.assertIs(names["whole"], True)
        desk = names["Desk"](names["numbers"])
        rows = re.search(r'desk\.run\("""(.*?)"""\)\n((?:# [^\n]*\n)+)', code, re.S)
        self.assertEqual(desk.run(rows.group(1)), ast.literal_eval(rows.group(2).replace("#", "").strip()))


if __name__ == "__main__":
    unittest.main()
