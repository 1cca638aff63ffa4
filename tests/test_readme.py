"""What README.md shows is what the program answers."""

import re
from pathlib import Path
from unittest import TestCase

README = Path(__file__).resolve().parent.parent / "README.md"


class Readme(TestCase):
    def test_examples(self):
        held, shown = {}, 0
        for block in re.findall(r"```python\n(.*?)```", README.read_text(), re.S):
            for row in block.splitlines():
                asked, _, told = row.partition(" # ")
                if told:
                    self.assertEqual(eval(asked, held), eval(told), row)
                    shown += 1
                else:
                    exec(row, held)
        self.assertEqual(shown, 51)
