"""The interface: one list in, one list out, nothing kept and nothing changed."""

import contextlib
import inspect
import io
import pathlib
import re
import sys
import unittest

from shareturns.desk import answers
from tests.helper import CLEAR, COMPANY, FULL, MOST_TURNS, ORDERS, SHOW, SWAP, UNDO, WORTH
from tests.helper import best, company, duel, game, line, play, players, price, scale, tempo, told, value, values

MIXED = [
    SHOW, ORDERS, UNDO, WORTH, play(0), value(0), best(0), company(0, 1, 1, 1, 1, []), COMPANY,
    players(30, 20, 0, 4), best(2), play(1), best(2), play(2), best(2), play(3), SHOW, UNDO, UNDO, value(1),
    players(30, 20, 0, 9), UNDO, UNDO, company(0, 3, 1, 0, 2, [4, 6]), SHOW, ORDERS, best(0), best(1), value(3),
]


# Each of the 17 calls, refused and not, so that each comes behind many others.
ALL = MIXED + [
    values(2), line(2), tempo(2), duel(0, [0, 0]), duel(0, [0]), duel(2, []), price(1, 1), price(1, 2), price(2, 0),
    SWAP, scale(2), scale(0), UNDO, SHOW, values(0), line(1), play(0), tempo(3), line(3), values(3), duel(1, [0]),
    CLEAR, UNDO, WORTH,
]


class Unchanging(list):
    """A list that may be read alone."""

    def refuse(self, *values, **named):
        raise AssertionError("what is handed in is changed")

    append = clear = extend = insert = pop = remove = reverse = sort = refuse
    __setitem__ = __delitem__ = __iadd__ = __imul__ = refuse


def joined(calls):
    return [number for call in calls for number in call]


class InterfaceTest(unittest.TestCase):
    def test_counts_stand_before_answers(self):
        self.assertEqual(answers([2]), [5, 0, 0, 0, 0, 0])
        self.assertEqual(answers([1, 3, 4, 0, 1, 3, 4, 0, 4, 0, 5, 5]), [1, 0, 2, 1, 0, 2, 3, 4, 1, -5, 1, 0, 1, -6])
        self.assertEqual(answers([0, 0, 0, 0, 0, 0, 0, 6]), [1, -2, 2, 0, 0])
        self.assertEqual(answers([0, 0, 2, 3, 4, 5, 1, 6, 2]), [1, 0, 12, 0, 0, 0, 0, 1, 0, 2, 3, 4, 5, 1, 6])

    def test_counts_stand_before_answers_of_every_call(self):
        self.assertEqual(answers([9, 0, 10, 1, 11, 1, 0, 15, 2]), [1, 0, 3, 0, 0, 0, 3, 0, 0, 0, 1, 0])
        self.assertEqual(answers([12, 13, 5, 14, 16, 0, 0, 2]), [1, 0, 1, 0, 1, 0, 1, -1, 5, 0, 0, 0, 0, 0])
        self.assertEqual(
            answers([1, 3, 5, 1, 2, 9, 2, 10, 0, 11, 0, 1, 0, 15, 2, 12, 6]),
            [1, 0, 3, 1, 0, -2, 5, 2, 0, 0, 3, 5, 5, 2, 0, 0, 3, 5, 1, -2, 1, 0, 2, 5, 3],
        )
        self.assertEqual(answers([11, 0, 3, 12, 12, 12, 11, 5, 2, 14, 14, 2]), [1, -3, 1, -2, 5, 0, 0, 0, 0, 0])

    def test_rows_that_look_like_calls(self):
        prices = [1, 2, 3, 4, 5, 6, 7, 8]
        self.assertEqual(told(company(0, 5, 4, 3, 2, prices), SHOW)[1][-9:], [8] + prices)
        self.assertEqual(told(company(0, 0, 0, 0, 0, [2] * 1000), WORTH), [[-2], [0, 0]])

    def test_gives_back_a_list_of_whole_numbers(self):
        found = answers(joined(ALL))
        self.assertIs(type(found), list)
        self.assertEqual({type(number) for number in found}, {int})

    def test_the_list_handed_in_stays(self):
        calls = joined(ALL)
        copied = list(calls)
        answers(calls)
        self.assertEqual(calls, copied)
        self.assertEqual(answers(Unchanging(calls)), answers(calls))

    def test_a_second_time(self):
        first = answers(joined(ALL))
        self.assertEqual(answers(joined(ALL)), first)
        first.clear()
        self.assertNotEqual(answers(joined(ALL)), first)
        self.assertEqual(answers([2]), [5, 0, 0, 0, 0, 0])
        self.assertEqual(answers([5]), [1, -6])

    def test_several_calls(self):
        self.assertEqual(
            told(*MIXED),
            [
                [0, 0, 0, 0, 0], [0], [-6], [0, 0], [-5], [0], [-5], [-2], [0],
                [0], [3, 45], [70, 40], [0, 20], [40, 40], [3, 45], [85, 40],
                [25, 40, 1, 1, 1, 1, 5, 3, 0, 1, 3, 10, 20, 40], [0], [0], [40],
                [-2], [0], [-6], [1],
                [30, 20, 0, 4, 2, 1, 5, 2, 1, 1, 3, 10, 20, 40, 0, 3, 1, 0, 2, 2, 4, 6],
                [9, 0, 1, 2, 3, 4, 5, 6, 7, 8], [3, 94], [2, 30], [-2],
            ],
        )

    def test_all_17_calls(self):
        self.assertEqual({call[0] for call in ALL}, set(range(17)))
        self.assertEqual(
            told(*ALL)[len(MIXED):],
            [
                [9, 0, 29, 1, 24, 2, 34, 3, 49, 4, 24, 5, 34, 6, 29, 7, 34, 8, 29], [4, 3, 0, 2, 2, 94, 45], [49],
                [4, 3, 0, 2, 0, 104, 45], [-3], [-2], [0], [-2], [-1], [0], [0], [-2], [-6],
                [40, 60, 1, 4, 2, 1, 10, 1, 2, 1, 3, 20, 40, 80, 1, 6, 0, 1, 2, 2, 8, 12],
                [9, 0, 80, 1, 80, 2, 60, 3, 130, 4, 60, 5, 80, 6, 80, 7, 80, 8, 80], [4, 3, 0, 2, 2, 90, 192],
                [80, 152], [-2], [-2], [-2], [-3], [0], [-6], [0, 0],
            ],
        )

    def test_400_calls_of_all_sorts(self):
        # Each round ends with clear, so that the next begins as the first did.
        rounds = 400 // len(ALL) + 1
        self.assertEqual(told(*(ALL * rounds)[:400]), (told(*ALL) * rounds)[:400])

    def test_400_calls_of_the_greatest_games(self):
        for count, turns in MOST_TURNS.items():
            asked = [call(goal) for goal in (0, 1, 2) for call in (value, best, values, line, tempo)]
            calls = FULL[:count] + [players(60, 50, 0, turns), *asked, duel(0, [0] * (turns // 2))]
            calls += [SWAP, price(0, 0), scale(3), duel(0, [0] * ((turns + 1) // 2)), *asked, CLEAR]
            self.assertEqual(told(*(calls * 20)[:400]), (told(*calls) * 20)[:400])
            self.assertNotIn([-7], told(*calls))

    def test_400_calls(self):
        self.assertEqual(told(*[WORTH] * 400), [[0, 0]] * 400)
        found = told(*game(0, 8), *[play(0), UNDO] * 199)
        self.assertEqual(found[2:], [[70, 40], [0]] * 199)

    def test_30000_numbers(self):
        calls = joined([company(0, 0, 0, 0, 0, range(1, 1001))] * 29)
        self.assertEqual(answers(calls + [6]), [1, -2] * 29 + [2, 0, 0])

    def test_prints_and_imports_nothing(self):
        loaded = set(sys.modules)
        printed = io.StringIO()
        with contextlib.redirect_stdout(printed), contextlib.redirect_stderr(printed):
            answers(joined(ALL))
        self.assertEqual(printed.getvalue(), "")
        self.assertEqual(set(sys.modules), loaded)

    def test_calls_within_one_another_stay_few(self):
        before = sys.getrecursionlimit()
        sys.setrecursionlimit(len(inspect.stack()) + 100)
        try:
            found = answers(joined([players(3, 5, 0, 8), line(0), duel(0, [0] * 1000)] + [WORTH] * 397))
        finally:
            sys.setrecursionlimit(before)
        self.assertEqual(len(found), 2 + 12 + 2 + 3 * 397)

    def test_the_readme_example(self):
        text = (pathlib.Path(__file__).resolve().parent.parent / "README.md").read_text()
        example = re.search(r"```python\n.*?(answers\(.*?\]\))\n# (\[.*?\])\n```", text, re.DOTALL)
        self.assertEqual(eval(example[1]), eval(example[2]))
