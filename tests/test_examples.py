"""The examples of the document, as they stand there, and those of README.md."""

import doctest
import unittest
from pathlib import Path

README = Path(__file__).resolve().parent.parent / "README.md"

SUMS = """
>>> from dialsums.sums import Sum
>>> x, both = Sum.of('x'), Sum((('r', -1), ('x', 2)), 5)
>>> [both.text, (3 - 2 * x).text, (both + x - 5).parts, both['x'], both({'x': 4, 'r': 1, 's': 9}), (both % 2).text]
['-r + 2 x + 5', '-2 x + 3', (('r', -1), ('x', 3)), 2, 12, 'r + 1']
>>> [both.put('x', Sum.of('r + 1')).text, len(both), 'x' in both, Sum().text]
['r + 7', 2, True, '0']
"""

DIALS = """
>>> from dialsums.dials import Dials
>>> even, sixes = Dials(4, (2, 4)), Dials(2, (2,)) & Dials(3, (3,))
>>> [even.text, (~even).text, sixes.text, (sixes - Dials(1, (), (6, 12))).text, sixes.after(6), even.many(10)]
['2 : 2 : -', '2 : 1 : -', '6 : 6 : -', '6 : 6 : 6 12', 12, 5]
>>> [6 in sixes, sixes <= even, Dials(1, (), (6, 9)).is_endless, Dials(1, (1,)) == ~Dials(1, ())]
[True, True, False, True]
"""

TELLING = """
>>> four, y = (Sum.of('4 x'),), Sum.of('y')
>>> from dialsums.telling import known, leak, shows_known
>>> [known(four, x, dial)[0] for dial in (4, 5, 6, 9, 1000)]
[1, 5, 3, 9, 250]
>>> [shows_known(four, x, 6, (3, (2,), (('x', 3),))), known((), 2 * x, 6)[0], known((x + 2 * y,), x, 10)[0]]
[True, 2, 2]
>>> [leak(rows, sums, 4) is None for rows, sums in ((four, (x,)), (four, (2 * x,)), ((x + y,), (x, y)), ((x + y,), (x,)))]
[True, True, False, True]
"""

SPREADING = """
>>> from dialsums.spreading import hidden, parts, told
>>> [parts(four, x), parts((x + 2 * y,), x), told(four, x).text, told(four, 2 * x).text]
[('over', 4, ((1, 1), (2, 2), (4, 4))), ('part', 2, ((1, 1), (2, 2))), '2 : 1 : -', '4 : 1 2 : -']
>>> [hidden(four, (x,)).text, hidden((x + 2 * y,), (x,)).text, hidden((x + y,), (x, y)).text, told((), 6 * x).text]
['1 : - : 2 4', '2 : 1 : -', '1 : - : -', '1 : - : 2 3 6']
"""

PLANS = """
>>> from dialsums.plans import Plan
>>> plan = Plan('people ann ben cy\\nown ann x\\ndraw ann r\\nsum ann p = 2 r + x\\nhand ann ben p\\nsum ann q = 4 r + x\\nhand ann cy q\\nburn ann r')
>>> [plan.owns, plan.notes, plan.row('q').text, plan.has('ann'), plan.saw('cy'), [row.text for row in plan.rows(('ben', 'cy'))]]
[(('ann', 'x'),), ('x', 'r', 'p', 'q'), '4 r + x', ('x', 'p', 'q'), ('q',), ['2 r + x', '4 r + x']]
>>> [parts(plan.rows(group), x) for group in (('ben',), ('cy',), ('ben', 'cy'))]
[('part', 2, ((1, 1), (2, 2))), ('part', 4, ((1, 1), (2, 2), (4, 4))), ('over', 1, ((1, 1),))]
>>> [hidden(plan.rows(('ben',)), (x,)).text, (plan + 'call cy q').saw('ben'), plan.without(8).text == plan.text]
['2 : 1 : -', ('p', 'q'), False]
"""

PLAYING = """
>>> from dialsums.playing import played, seen
>>> [played(plan, 10, (7, 4)), seen(plan, ('cy',), 10, (7, 4)), seen(plan, ('ben', 'cy'), 10, (2, 9))]
[(('x', 7), ('r', 4), ('p', 5), ('q', 3)), (3,), (0, 8)]
"""


class Examples(unittest.TestCase):
    """Each block is run as one piece, as a reader would type it."""

    def run_all(self, text, many):
        told = []
        test = doctest.DocTestParser().get_doctest(text, {}, "example", None, 0)
        done = doctest.DocTestRunner(verbose=False).run(test, out=told.append)
        self.assertEqual(done.failed, 0, "".join(told))
        self.assertEqual(done.attempted, many)

    def test_sums(self):
        self.run_all(SUMS, 4)

    def test_dials(self):
        self.run_all(DIALS, 4)

    def test_telling(self):
        self.run_all(SUMS + TELLING, 9)

    def test_spreading(self):
        self.run_all(SUMS + TELLING + SPREADING, 12)

    def test_plans(self):
        self.run_all(SUMS + TELLING + SPREADING + PLANS, 17)

    def test_playing(self):
        self.run_all(SUMS + TELLING + SPREADING + PLANS + PLAYING, 19)

    def test_readme(self):
        self.run_all(README.read_text(), 24)


if __name__ == "__main__":
    unittest.main()
