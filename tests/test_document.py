"""All examples of the document once more, where it lies beside the repository."""

import pathlib
import re
import unittest

DOCUMENT = pathlib.Path(__file__).parents[2] / "shared" / "DOC.md"


def examples():
    """For each block of examples: a list of (line of code, what it tells or None)."""
    for block in re.findall(r"```\n(from healwires.*?)```", DOCUMENT.read_text(), re.S):
        lines, rows = block.splitlines(), []
        for place, line in enumerate(lines):
            if not line.startswith("# "):
                later = lines[place + 1] if place + 1 < len(lines) else ""
                rows.append((line, later[2:] if later.startswith("# ") else None))
        yield rows


@unittest.skipUnless(DOCUMENT.exists(), "no document")
class Examples(unittest.TestCase):
    def test_all_blocks(self):
        blocks, told = list(examples()), 0
        self.assertGreater(len(blocks), 15)
        for rows in blocks:
            names = {}
            for line, wanted in rows:
                if wanted is None:
                    exec(line, names)
                else:
                    self.assertEqual(eval(line, names), eval(wanted), line)
                    told += 1
        self.assertGreater(told, 70)


if __name__ == "__main__":
    unittest.main()
