"""The examples of README.md tell what stands beside them."""

import re
import unittest
from pathlib import Path

README = Path(__file__).resolve().parent.parent / "README.md"
BLOCK = re.compile(r"```python\n(.*?)```", re.DOTALL)
SHOWN = re.compile(r"^(\S.*?)\s+# (.+)$", re.MULTILINE)


class ReadmeTest(unittest.TestCase):
    def test_each_row_tells_what_stands_beside_it(self):
        names = {}
        for block in BLOCK.findall(README.read_text()):
            rest = block
            for row in SHOWN.finditer(block):
                ahead, _, rest = rest.partition(row.group(0))
                exec(ahead, names)
                with self.subTest(row.group(1)):
                    self.assertEqual(eval(row.group(1), names), eval(row.group(2)))
