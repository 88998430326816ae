"""Promises 7 (value), 8 (best), and when there are too many positions."""

import unittest

from tests.helper import COMPANY, FULL, MOST_TURNS, SHOW, UNDO, WRONG_GOALS
from tests.helper import best, company, game, last, play, players, told

# Nothing but to pass: quick, however many turns are left.
EMPTY = company(0, 5, 0, 0, 0, [10])


def values(*calls):
    return [number for answer in told(*calls, [7, 0], [7, 1], [7, 2])[-3:] for number in answer]


def bests(*calls):
    return told(*calls, [8, 0], [8, 1], [8, 2])[-3:]


class ValueTest(unittest.TestCase):
    def test_no_turns_left(self):
        self.assertEqual(values(*game(0, 0)), [70, 40, 30])
        self.assertEqual(values(*game(1, 0)), [70, 40, 30])

    def test_a_beginning(self):
        self.assertEqual(values(), [0, 0, 0])

    def test_one_turn_of_player_0(self):
        self.assertEqual(values(*game(0, 1)), [120, 30, 55])

    def test_one_turn_of_player_1(self):
        self.assertEqual(values(*game(1, 1)), [50, 40, 10])

    def test_two_turns(self):
        self.assertEqual(values(*game(0, 2)), [80, 30, 30])

    def test_behind_an_order(self):
        self.assertEqual([values(*game(0, 2), play(order))[2] for order in range(5)], [10, 0, 30, 15, 20])
        self.assertEqual([values(*game(0, 2), play(order))[0] for order in range(5)], [50, 40, 60, 80, 50])
        self.assertEqual([values(*game(0, 2), play(order))[1] for order in range(5)], [40, 40, 30, 65, 30])

    def test_behind_an_order_once_the_value_was_asked(self):
        found = told(*game(0, 2), [7, 2], play(3), [7, 2], UNDO, [7, 2], players(0, 0, 0, 0), [7, 2])
        self.assertEqual(found[2:], [[30], [120, 65], [15], [0], [30], [0], [20]])

    def test_once_a_company_came(self):
        other = company(0, 100, 1, 0, 0, [1])
        self.assertEqual(told(*game(0, 1), [7, 0], other, [7, 0])[2:], [[120], [1], [171]])

    def test_below_0_is_no_refusal(self):
        self.assertEqual(last(players(3, 5, 0, 1), [7, 2]), [-2])
        self.assertEqual(last(players(3, 10, 0, 1), [7, 2]), [-7])
        self.assertEqual(last(players(0, 1000000, 1, 8), [7, 2]), [-1000000])

    def test_no_company(self):
        for turn in (0, 1):
            self.assertEqual(values(players(30, 20, turn, 8)), [30, 20, 10])

    def test_the_most_turns_and_one_more(self):
        for count, turns in MOST_TURNS.items():
            for turn in (0, 1):
                with self.subTest(count):
                    calls = [EMPTY] * count
                    self.assertEqual(values(*calls, players(30, 20, turn, turns)), [30, 20, 10])
                    self.assertEqual(values(*calls, players(30, 20, turn, turns + 1)), [-7, -7, -7])
                    self.assertEqual(values(*calls, players(30, 20, turn, 8)), [-7, -7, -7])

    def test_turns_left_count_not_turns_told(self):
        found = told(*game(0, 8), [7, 0], play(0), [7, 0], UNDO, [7, 0])
        self.assertEqual(found[2], [-7])
        self.assertNotEqual(found[4], [-7])
        self.assertEqual(found[6], [-7])

    def test_too_many_changes_nothing(self):
        found = told(*game(0, 8), play(0), UNDO, SHOW, [7, 0], SHOW)
        self.assertEqual(found[6], found[4])

    def test_wrong_goals(self):
        for goal in WRONG_GOALS:
            for left in (0, 1, 8):
                with self.subTest(goal):
                    found = told(*game(0, left), SHOW, [7, goal], SHOW)
                    self.assertEqual(found[3:], [[-2], found[2]])

    def test_changes_nothing(self):
        found = told(*game(0, 3), play(1), SHOW, [7, 0], [7, 1], [7, 2], SHOW, UNDO)
        self.assertEqual(found[7:], [found[3], [0]])


class BestTest(unittest.TestCase):
    def test_one_turn_of_player_0(self):
        self.assertEqual(bests(*game(0, 1)), [[3, 120], [2, 30], [3, 55]])

    def test_one_turn_of_player_1(self):
        self.assertEqual(bests(*game(1, 1)), [[2, 50], [0, 40], [2, 10]])

    def test_two_turns(self):
        self.assertEqual(bests(*game(0, 2)), [[3, 80], [2, 30], [2, 30]])

    def test_the_first_of_equal_orders(self):
        calls = [company(0, 1, 2, 0, 0, [10]), company(0, 1, 2, 0, 0, [10])]
        self.assertEqual(bests(*calls, players(0, 0, 0, 1)), [[3, 42], [0, 0], [3, 42]])
        self.assertEqual(bests(*calls, players(0, 0, 1, 1)), [[0, 40], [0, 0], [0, 40]])

    def test_an_order_of_the_last_company(self):
        calls = [EMPTY, EMPTY, company(0, 1, 2, 0, 0, [10])]
        self.assertEqual(bests(*calls, players(0, 0, 0, 1))[0], [11, 22])

    def test_no_company(self):
        self.assertEqual(bests(players(3, 5, 1, 8)), [[0, 3], [0, 5], [0, -2]])

    def test_no_turns_left(self):
        found = told(*game(0, 0), SHOW, [8, 0], [8, 1], [8, 2], SHOW)
        self.assertEqual(found[3:], [[-5], [-5], [-5], found[2]])
        self.assertEqual(last(*game(0, 1), play(0), best(0)), [-5])
        self.assertEqual(bests(), [[-5], [-5], [-5]])

    def test_wrong_goals(self):
        for goal in WRONG_GOALS:
            for left in (0, 1, 8):
                with self.subTest(goal):
                    found = told(*game(0, left), SHOW, best(goal), SHOW)
                    self.assertEqual(found[3:], [[-2], found[2]])

    def test_the_most_turns_and_one_more(self):
        for count, turns in MOST_TURNS.items():
            with self.subTest(count):
                calls = [EMPTY] * count
                self.assertEqual(bests(*calls, players(30, 20, 1, turns)), [[0, 30], [0, 20], [0, 10]])
                self.assertEqual(bests(*calls, players(30, 20, 0, turns + 1)), [[-7], [-7], [-7]])

    def test_its_value_is_that_of_value_and_stays_behind_it(self):
        for count, turns in MOST_TURNS.items():
            for goal in (0, 1, 2):
                with self.subTest(count):
                    calls = FULL[:count] + [players(60, 50, 0, turns)]
                    found = told(*calls, best(goal), [7, goal])
                    order = found[-2][0]
                    self.assertEqual(found[-2][1:], found[-1])
                    self.assertEqual(last(*calls, play(order), [7, goal]), found[-1])

    def test_changes_nothing(self):
        found = told(COMPANY, *game(0, 3), play(1), SHOW, [8, 0], [8, 1], [8, 2], SHOW, UNDO)
        self.assertEqual(found[8:], [found[4], [0]])
