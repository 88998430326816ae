"""The interface: one list in, one list out, nothing kept and nothing changed."""

import unittest

from shareturns.desk import answers
from tests.helper import COMPANY, ORDERS, SHOW, UNDO, WORTH, best, company, game, play, players, told, value

MIXED = [
    SHOW, ORDERS, UNDO, WORTH, play(0), value(0), best(0), company(0, 1, 1, 1, 1, []), COMPANY,
    players(30, 20, 0, 4), best(2), play(1), best(2), play(2), best(2), play(3), SHOW, UNDO, UNDO, value(1),
    players(30, 20, 0, 9), UNDO, UNDO, company(0, 3, 1, 0, 2, [4, 6]), SHOW, ORDERS, best(0), best(1), value(3),
]


class Unchanging(list):
    """A list that may be read alone."""

    def refuse(self, *values, **named):
        raise AssertionError("what is handed in is changed")

    append = clear = extend = insert = pop = remove = reverse = sort = refuse
    __setitem__ = __delitem__ = __iadd__ = __imul__ = refuse


def joined(calls):
    return [number for call in calls for number in call]


class InterfaceTest(unittest.TestCase):
    def test_counts_stand_before_answers(self):
        self.assertEqual(answers([2]), [5, 0, 0, 0, 0, 0])
        self.assertEqual(answers([1, 3, 4, 0, 1, 3, 4, 0, 4, 0, 5, 5]), [1, 0, 2, 1, 0, 2, 3, 4, 1, -5, 1, 0, 1, -6])
        self.assertEqual(answers([0, 0, 0, 0, 0, 0, 0, 6]), [1, -2, 2, 0, 0])
        self.assertEqual(answers([0, 0, 2, 3, 4, 5, 1, 6, 2]), [1, 0, 12, 0, 0, 0, 0, 1, 0, 2, 3, 4, 5, 1, 6])

    def test_rows_that_look_like_calls(self):
        prices = [1, 2, 3, 4, 5, 6, 7, 8]
        self.assertEqual(told(company(0, 5, 4, 3, 2, prices), SHOW)[1][-9:], [8] + prices)
        self.assertEqual(told(company(0, 0, 0, 0, 0, [2] * 1000), WORTH), [[-2], [0, 0]])

    def test_gives_back_a_list_of_whole_numbers(self):
        found = answers(joined(MIXED))
        self.assertIs(type(found), list)
        self.assertEqual({type(number) for number in found}, {int})

    def test_the_list_handed_in_stays(self):
        calls = joined(MIXED)
        copied = list(calls)
        answers(calls)
        self.assertEqual(calls, copied)
        self.assertEqual(answers(Unchanging(calls)), answers(calls))

    def test_a_second_time(self):
        first = answers(joined(MIXED))
        self.assertEqual(answers(joined(MIXED)), first)
        first.clear()
        self.assertNotEqual(answers(joined(MIXED)), first)
        self.assertEqual(answers([2]), [5, 0, 0, 0, 0, 0])
        self.assertEqual(answers([5]), [1, -6])

    def test_several_calls(self):
        self.assertEqual(
            told(*MIXED),
            [
                [0, 0, 0, 0, 0], [0], [-6], [0, 0], [-5], [0], [-5], [-2], [0],
                [0], [3, 45], [70, 40], [0, 20], [40, 40], [3, 45], [85, 40],
                [25, 40, 1, 1, 1, 1, 5, 3, 0, 1, 3, 10, 20, 40], [0], [0], [40],
                [-2], [0], [-6], [1],
                [30, 20, 0, 4, 2, 1, 5, 2, 1, 1, 3, 10, 20, 40, 0, 3, 1, 0, 2, 2, 4, 6],
                [9, 0, 1, 2, 3, 4, 5, 6, 7, 8], [3, 94], [2, 30], [-2],
            ],
        )

    def test_400_calls(self):
        self.assertEqual(told(*[WORTH] * 400), [[0, 0]] * 400)
        found = told(*game(0, 8), *[play(0), UNDO] * 199)
        self.assertEqual(found[2:], [[70, 40], [0]] * 199)

    def test_30000_numbers(self):
        calls = joined([company(0, 0, 0, 0, 0, range(1, 1001))] * 29)
        self.assertEqual(answers(calls + [6]), [1, -2] * 29 + [2, 0, 0])
