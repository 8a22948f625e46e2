"""What README.md shows of the desk is what the desk tells."""

import pathlib
import re
import unittest

from namelesshall.desk import Desk

README = pathlib.Path(__file__).resolve().parent.parent / "README.md"


class Readme(unittest.TestCase):
    def test_the_rows_of_the_desk(self):
        rows = re.findall(r'desk\.say\("(.*?)"\)\s+# "(.*?)"', README.read_text())
        self.assertEqual(len(rows), 9)
        desk = Desk()
        for row, told in rows:
            self.assertEqual(desk.say(row), told)


if __name__ == "__main__":
    unittest.main()
