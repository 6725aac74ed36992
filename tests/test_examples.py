"""The examples of the document, as they stand there, and those of README.md."""

import doctest
import unittest
from pathlib import Path

README = Path(__file__).resolve().parent.parent / "README.md"

SUMS = """
>>> from dialsums.sums import Sum
>>> x, both = Sum.of('x'), Sum((('r', -1), ('x', 2)), 5)
>>> [both.text, (3 - 2 * x).text, (both + x - 5).parts, both['x'], both({'x': 4, 'r': 1, 's': 9}), (both % 2).text]
['-r + 2 x + 5', '-2 x + 3', (('r', -1), ('x', 3)), 2, 12, 'r + 1']
>>> [both.put('x', Sum.of('r + 1')).text, len(both), 'x' in both, Sum().text]
['r + 7', 2, True, '0']
"""

DIALS = """
>>> from dialsums.dials import Dials
>>> even, sixes = Dials(4, (2, 4)), Dials(2, (2,)) & Dials(3, (3,))
>>> [even.text, (~even).text, sixes.text, (sixes - Dials(1, (), (6, 12))).text, sixes.after(6), even.many(10)]
['2 : 2 : -', '2 : 1 : -', '6 : 6 : -', '6 : 6 : 6 12', 12, 5]
>>> [6 in sixes, sixes <= even, Dials(1, (), (6, 9)).is_endless, Dials(1, (1,)) == ~Dials(1, ())]
[True, True, False, True]
"""

TELLING = """
>>> from dialsums.telling import known, leak, shows_known
>>> four, y = (Sum.of('4 x'),), Sum.of('y')
>>> [known(four, x, dial)[0] for dial in (4, 5, 6, 9, 1000)]
[1, 5, 3, 9, 250]
>>> [shows_known(four, x, 6, (3, (2,), (('x', 3),))), known((), 2 * x, 6)[0], known((x + 2 * y,), x, 10)[0]]
[True, 2, 2]
>>> [leak(rows, sums, 4) is None for rows, sums in ((four, (x,)), (four, (2 * x,)), ((x + y,), (x, y)), ((x + y,), (x,)))]
[True, True, False, True]
"""

SPREADING = """
>>> from dialsums.spreading import hidden, parts, told
>>> [parts(four, x), parts((x + 2 * y,), x), told(four, x).text, told(four, 2 * x).text]
[('over', 4, ((1, 1), (2, 2), (4, 4))), ('part', 2, ((1, 1), (2, 2))), '2 : 1 : -', '4 : 1 2 : -']
>>> [hidden(four, (x,)).text, hidden((x + 2 * y,), (x,)).text, hidden((x + y,), (x, y)).text, told((), 6 * x).text]
['1 : - : 2 4', '2 : 1 : -', '1 : - : -', '1 : - : 2 3 6']
"""

PLANS = """
>>> from dialsums.plans import Plan
>>> plan = Plan('people ann ben cy\\nown ann x\\ndraw ann r\\nsum ann p = 2 r + x\\nhand ann ben p\\nsum ann q = 4 r + x\\nhand ann cy q\\nburn ann r')
>>> [plan.owns, plan.notes, plan.row('q').text, plan.has('ann'), plan.saw('cy'), [row.text for row in plan.rows(('ben', 'cy'))]]
[(('ann', 'x'),), ('x', 'r', 'p', 'q'), '4 r + x', ('x', 'p', 'q'), ('q',), ['2 r + x', '4 r + x']]
>>> [parts(plan.rows(group), x) for group in (('ben',), ('cy',), ('ben', 'cy'))]
[('part', 2, ((1, 1), (2, 2))), ('part', 4, ((1, 1), (2, 2), (4, 4))), ('over', 1, ((1, 1),))]
>>> [hidden(plan.rows(('ben',)), (x,)).text, (plan + 'call cy q').saw('ben'), plan.without(8).text == plan.text]
['2 : 1 : -', ('p', 'q'), False]
"""

PLAYING = """
>>> from dialsums.playing import played, seen
>>> [played(plan, 10, (7, 4)), seen(plan, ('cy',), 10, (7, 4)), seen(plan, ('ben', 'cy'), 10, (2, 9))]
[(('x', 7), ('r', 4), ('p', 5), ('q', 3)), (3,), (0, 8)]
"""

GROUPS = """
>>> from dialsums.groups import classes, knowers, strangers
>>> [knowers(plan, x, 6), knowers(plan, Sum.of('4 r'), 4), [(dials.text, groups) for dials, groups in classes(plan, Sum.of('2 r'))]]
[(('ann',), ('ben', 'cy')), ((),), [('1 : - : 2', ((),)), ('1 : 1 : 2', (('ann',), ('ben', 'cy')))]]
>>> [strangers(plan, x, few).text for few in (0, 1, 2)]
['1 : 1 : -', '2 : 1 : -', '1 : - : -']
"""

COMPARING = """
>>> from dialsums.comparing import agreeing, parting, within
>>> other = Plan(plan.text.replace('2 r', 'r').replace('4 r', '2 r'))
>>> [agreeing(plan, other).text, within(other, plan).text, within(plan, other).text, parting(plan, other, 9)]
['2 : 1 : -', '1 : 1 : -', '2 : 1 : -', None]
"""

SEEING = """
>>> from dialsums.seeing import could, fitting
>>> twice = Plan('people ann ben\\nown ann x\\nsum ann d = 5 x\\ncall ann x\\ncall ann d')
>>> [fitting(twice, (('d', 2), ('x', 4))).text, fitting(twice, (('d', 3), ('x', 0))).text, fitting(twice, (('d', 0),)).text]
['1 : - : 6 9 18', '1 : - : -', '1 : 1 : -']
>>> could(plan, (('p', 5),), x, 10)[:2]
(1, 2)
"""

CHOOSING = """
>>> from dialsums.choosing import cheapest
>>> wishes = (('told', ('ben', 'cy'), (x,), ~Dials(1, ())), ('hidden', ('ben',), (x,), Dials(2, (2,))))
>>> heard = cheapest(plan, ((4, 'sum ann p = r + x', 3), (5, '', 2), (6, 'sum ann q = 2 r + x', 1)), wishes)
>>> [heard[:3], [(number, dial) for choice, number, dial in heard[3]]]
[('choice', 4, ((4, 'sum ann p = r + x', 3), (6, 'sum ann q = 2 r + x', 1))), [(1, 2), (0, 3), (0, 3), (0, 3), (0, 3)]]
"""

ROUNDS = """
>>> from dialsums.rounds import ever, looked, Rounds, shows_ever
>>> split = 'people ann ben cy\\nown ann x\\ndraw ann b\\nsum ann c = -b + x\\nhand ann ben b\\nhand ann cy c\\nburn ann x\\nburn ann b\\nburn ann c'
>>> still = Rounds(split + '\\nround\\ndraw ben t\\ncall ben b')
>>> anew = Rounds(split + '\\nround\\ndraw ben t\\nhand ben cy t\\nsum ben d = b + t\\nsum cy e = c - t\\nnext b d\\nnext c e')
>>> [anew.kept, anew.later('c').text, looked(anew, (('ben',), ('cy',)), x, 6), looked(anew, (('ben', 'cy'),), x, 6), still.calls[0].text]
[('b', 'c'), 'c - t', 1, 6, 'b']
>>> closed = (((1, 0, 5), (0, 1, 0), (0, 0, 6)), ((1, 5, 0), (0, 6, 0), (0, 0, 1)), ((1, 5, 5), (0, 6, 0), (0, 0, 6)))
>>> [ever(anew, x, 1, 6)[0], shows_ever(anew, x, 1, 6, ('never', closed)), ever(still, x, 1, 6)[0], len(ever(still, x, 1, 6)[1])]
['never', True, 'comes', 2]
"""

ROOMS = """
>>> from dialsums.rooms import read_room, Room
>>> room = Room(6, ('ann', 'ben'))
>>> room.own('ann', 'x', 5)
>>> room.draw('ann', 'r', 2)
>>> [room.reckon('ann', 'p', Sum.of('2 r + x')), room.hand('ann', 'ben', 'p'), room.part(('ben',), x), room.seen(('ben',))]
[3, None, 2, (('p', 3),)]
>>> room.burn('ann', 'r')
>>> [room.done, room.journal[0], room.tried(len), room.plan.has('ben'), read_room(6, ('ann', 'ben'), room.journal) == room]
[5, 'own ann x 5', 3, ('p',), True]
"""

DESK = """
>>> from dialsums.desk import Desk
>>> desk = Desk('10 ann ben')
>>> [desk.say(line) for line in ('own ann x 3', 'draw ann r 9', 'sum ann p = 2 r + x', 'call ann p', 'part ben x', 'told ben 2 r + x', 'told - 2 x', 'undo')]
['done', 'done', '1', 'done', '2', '1 : 1 : -', '1 : - : 2', 'done']
"""

ALL = (SUMS, DIALS, TELLING, SPREADING, PLANS, PLAYING, GROUPS, COMPARING, SEEING, CHOOSING, ROUNDS, ROOMS, DESK)


class Examples(unittest.TestCase):
    """Each block is run as one piece, as a reader would type it."""

    def run_all(self, text, many):
        told = []
        test = doctest.DocTestParser().get_doctest(text, {}, "example", None, 0)
        done = doctest.DocTestRunner(verbose=False).run(test, out=told.append)
        self.assertEqual(done.failed, 0, "".join(told))
        self.assertEqual(done.attempted, many)

    def test_sums(self):
        self.run_all(SUMS, 4)

    def test_dials(self):
        self.run_all(DIALS, 4)

    def test_telling(self):
        self.run_all(SUMS + TELLING, 9)

    def test_spreading(self):
        self.run_all(SUMS + TELLING + SPREADING, 12)

    def test_plans(self):
        self.run_all(SUMS + TELLING + SPREADING + PLANS, 17)

    def test_playing(self):
        self.run_all(SUMS + TELLING + SPREADING + PLANS + PLAYING, 19)

    def test_groups(self):
        self.run_all("".join(ALL[:7]), 26)

    def test_comparing(self):
        self.run_all("".join(ALL[:6] + ALL[7:8]), 26)

    def test_seeing(self):
        self.run_all("".join(ALL[:6] + ALL[8:9]), 27)

    def test_choosing(self):
        self.run_all("".join(ALL[:6] + ALL[9:10]), 27)

    def test_rounds(self):
        self.run_all(SUMS + ROUNDS, 11)

    def test_rooms(self):
        self.run_all(SUMS + ROOMS, 11)

    def test_desk(self):
        self.run_all(DESK, 3)

    def test_the_whole_document(self):
        self.run_all("".join(ALL), 54)

    def test_readme(self):
        self.run_all(README.read_text(), 59)


if __name__ == "__main__":
    unittest.main()
