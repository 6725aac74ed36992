"""The examples of the document, as they stand there, and those of README.md."""

import doctest
import unittest
from pathlib import Path

README = Path(__file__).resolve().parent.parent / "README.md"

SUMS = """
>>> from dialsums.sums import Sum
>>> x, both = Sum.of('x'), Sum((('r', -1), ('x', 2)), 5)
>>> [both.text, (3 - 2 * x).text, (both + x - 5).parts, both['x'], both({'x': 4, 'r': 1, 's': 9}), (both % 2).text]
['-r + 2 x + 5', '-2 x + 3', (('r', -1), ('x', 3)), 2, 12, 'r + 1']
>>> [both.put('x', Sum.of('r + 1')).text, len(both), 'x' in both, Sum().text]
['r + 7', 2, True, '0']
"""

DIALS = """
>>> from dialsums.dials import Dials
>>> even, sixes = Dials(4, (2, 4)), Dials(2, (2,)) & Dials(3, (3,))
>>> [even.text, (~even).text, sixes.text, (sixes - Dials(1, (), (6, 12))).text, sixes.after(6), even.many(10)]
['2 : 2 : -', '2 : 1 : -', '6 : 6 : -', '6 : 6 : 6 12', 12, 5]
>>> [6 in sixes, sixes <= even, Dials(1, (), (6, 9)).is_endless, Dials(1, (1,)) == ~Dials(1, ())]
[True, True, False, True]
"""


class Examples(unittest.TestCase):
    """Each block is run as one piece, as a reader would type it."""

    def run_all(self, text, many):
        told = []
        test = doctest.DocTestParser().get_doctest(text, {}, "example", None, 0)
        done = doctest.DocTestRunner(verbose=False).run(test, out=told.append)
        self.assertEqual(done.failed, 0, "".join(told))
        self.assertEqual(done.attempted, many)

    def test_sums(self):
        self.run_all(SUMS, 4)

    def test_dials(self):
        self.run_all(DIALS, 4)

    def test_readme(self):
        self.run_all(README.read_text(), 10)


if __name__ == "__main__":
    unittest.main()
