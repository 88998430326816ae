"""Promises 9 (values), 10 (line), 15 (tempo)."""

import unittest

from tests.helper import COMPANY, GOALS, ORDERS, PLAYED, STATE, SWAP, UNDO, WORTH, WRONG_GOALS
from tests.helper import best, company, game, greatest, last, line, play, players, tempo, told, too_great, value, values


def by_goal(call, *calls):
    """The answers of a call for each goal."""
    return told(*calls, *[call(goal) for goal in GOALS])[-3:]


def one_after_another(calls, goal, turns):
    """What line must answer, by best and play alone."""
    orders = []
    for turn in range(turns):
        orders.append(last(*calls, *[play(order) for order in orders], best(goal))[0])
    return [turns] + orders + last(*calls, *[play(order) for order in orders], WORTH)


def one_by_one(calls, goal):
    """What values must answer, by orders, play, value and undo alone."""
    orders = last(*calls, ORDERS)[1:]
    tries = [call for order in orders for call in (play(order), value(goal), UNDO)]
    found = told(*calls, *tries)[len(calls) + 1::3]
    return [len(orders)] + [number for order, answer in zip(orders, found) for number in [order] + answer]


class RefusalsTest(unittest.TestCase):
    def test_wrong_goals(self):
        for call in (values, line, tempo):
            for goal in WRONG_GOALS:
                for left in (0, 1, 8):
                    with self.subTest(call=call.__name__, goal=goal, left=left):
                        self.assertEqual(last(*game(0, left), call(goal)), [-2])

    def test_too_many_positions(self):
        for call in (values, line, tempo):
            for turn in (0, 1):
                for calls in too_great(turn):
                    with self.subTest(call=call.__name__):
                        self.assertEqual(by_goal(call, *calls), [[-7], [-7], [-7]])

    def test_a_wrong_goal_with_too_many_positions(self):
        for call in (values, line, tempo):
            for calls in too_great(0):
                for goal in WRONG_GOALS:
                    self.assertEqual(last(*calls, call(goal)), [-2])

    def test_turns_left_count_not_turns_told(self):
        for call in (values, line, tempo):
            for calls in too_great(1):
                found = told(*calls, call(2), play(0), call(2), UNDO, call(2))[len(calls):]
                self.assertEqual([found[0], found[4]], [[-7], [-7]])
                self.assertNotEqual(found[2], [-7])

    def test_refused_or_not_they_change_nothing(self):
        expected = told(*PLAYED, *STATE)[-len(STATE):]
        for call in (values, line, tempo):
            for goal in GOALS + WRONG_GOALS:
                with self.subTest(call=call.__name__, goal=goal):
                    self.assertEqual(told(*PLAYED, call(goal), *STATE)[-len(STATE):], expected)

    def test_refused_for_too_many_they_change_nothing(self):
        played = [COMPANY, COMPANY, players(30, 20, 0, 8), play(3), play(0)]
        expected = told(*played, *STATE)[-len(STATE):]
        for call in (values, line, tempo):
            found = told(*played, call(0), *STATE)[len(played):]
            self.assertEqual(found, [[-7]] + expected)


class ValuesTest(unittest.TestCase):
    def test_no_turns_left(self):
        self.assertEqual(by_goal(values, *game(0, 0)), [[0], [0], [0]])
        self.assertEqual(by_goal(values, *game(1, 1), play(0)), [[0], [0], [0]])
        self.assertEqual(by_goal(values), [[0], [0], [0]])

    def test_one_turn_of_player_0(self):
        self.assertEqual(
            by_goal(values, *game(0, 1)),
            [
                [5, 0, 70, 1, 70, 2, 60, 3, 120, 4, 50],
                [5, 0, 40, 1, 40, 2, 30, 3, 65, 4, 30],
                [5, 0, 30, 1, 30, 2, 30, 3, 55, 4, 20],
            ],
        )

    def test_one_turn_of_player_1(self):
        self.assertEqual(
            by_goal(values, *game(1, 1)),
            [[3, 0, 70, 1, 70, 2, 50], [3, 0, 40, 1, 40, 2, 40], [3, 0, 30, 1, 30, 2, 10]],
        )

    def test_two_turns(self):
        self.assertEqual(
            by_goal(values, *game(0, 2)),
            [
                [5, 0, 50, 1, 40, 2, 60, 3, 80, 4, 50],
                [5, 0, 40, 1, 40, 2, 30, 3, 65, 4, 30],
                [5, 0, 10, 1, 0, 2, 30, 3, 15, 4, 20],
            ],
        )

    def test_below_0(self):
        self.assertEqual(last(players(3, 5, 0, 1), values(2)), [1, 0, -2])

    def test_orders_of_the_last_company(self):
        calls = [company(0, 5, 0, 0, 0, [10]), company(0, 1, 2, 0, 0, [10]), players(0, 0, 0, 1)]
        self.assertEqual(last(*calls, values(0)), [4, 0, 20, 6, 20, 7, 22, 8, 20])

    def test_against_play_value_and_undo(self):
        for turn in (0, 1):
            for calls in greatest(turn) + [game(turn, left) for left in range(1, 8)]:
                for goal in GOALS:
                    with self.subTest(calls=calls, goal=goal):
                        self.assertEqual(last(*calls, values(goal)), one_by_one(calls, goal))


class LineTest(unittest.TestCase):
    def test_no_turns_left(self):
        self.assertEqual(by_goal(line, *game(0, 0)), [[0, 70, 40]] * 3)
        self.assertEqual(by_goal(line, *game(0, 1), play(3)), [[0, 120, 65]] * 3)
        self.assertEqual(by_goal(line), [[0, 0, 0]] * 3)

    def test_one_turn(self):
        self.assertEqual(by_goal(line, *game(0, 1)), [[1, 3, 120, 65], [1, 2, 60, 30], [1, 3, 120, 65]])
        self.assertEqual(by_goal(line, *game(1, 1)), [[1, 2, 50, 40], [1, 0, 70, 40], [1, 2, 50, 40]])

    def test_two_turns(self):
        self.assertEqual(by_goal(line, *game(0, 2)), [[2, 3, 2, 80, 65], [2, 2, 0, 60, 30], [2, 2, 0, 60, 30]])

    def test_no_company(self):
        self.assertEqual(by_goal(line, players(3, 5, 1, 8)), [[8] + [0] * 8 + [3, 5]] * 3)

    def test_against_best_and_play(self):
        for turn in (0, 1):
            for calls in greatest(turn) + [game(turn, left) for left in range(1, 6)]:
                for goal in GOALS:
                    with self.subTest(calls=calls, goal=goal):
                        expected = one_after_another(calls, goal, calls[-1][-1])
                        self.assertEqual(last(*calls, line(goal)), expected)

    def test_its_end_comes_to_the_value(self):
        for turn in (0, 1):
            for calls in greatest(turn):
                ends = [answer[-2:] for answer in by_goal(line, *calls)]
                reached = [[ends[0][0]], [ends[1][1]], [ends[2][0] - ends[2][1]]]
                self.assertEqual(reached, by_goal(value, *calls))


class TempoTest(unittest.TestCase):
    def test_no_turns_left(self):
        self.assertEqual(by_goal(tempo, *game(0, 0)), [[70], [40], [30]])
        self.assertEqual(by_goal(tempo, *game(1, 0)), [[70], [40], [30]])
        self.assertEqual(by_goal(tempo), [[0], [0], [0]])

    def test_one_turn(self):
        self.assertEqual(by_goal(tempo, *game(1, 1)), [[120], [30], [55]])
        self.assertEqual(by_goal(tempo, *game(0, 1)), [[50], [40], [10]])

    def test_two_turns(self):
        self.assertEqual(by_goal(tempo, *game(1, 2)), [[80], [30], [30]])

    def test_below_0_is_no_refusal(self):
        self.assertEqual(last(players(3, 5, 0, 1), tempo(2)), [-2])
        self.assertEqual(last(players(3, 10, 0, 1), tempo(2)), [-7])

    def test_against_players(self):
        for turn in (0, 1):
            for calls, others in zip(greatest(turn), greatest(1 - turn)):
                self.assertEqual(by_goal(tempo, *calls), by_goal(value, *others))

    def test_against_swap(self):
        # Exchanged players, seen from the other side.
        for turn in (0, 1):
            for calls in greatest(turn):
                found = by_goal(tempo, *calls, SWAP)
                exchanged = [found[1], found[0], [-found[2][0]]]
                self.assertEqual(exchanged, by_goal(tempo, *calls))

    def test_against_a_game_told_the_other_way_round_and_swapped(self):
        for turn in (0, 1):
            for left in range(8):
                exchanged = [company(1, 5, 1, 2, 1, [10, 20, 40]), players(20, 30, turn, left), SWAP]
                self.assertEqual(by_goal(tempo, *game(turn, left)), by_goal(value, *exchanged))

    def test_against_value_once_it_was_asked(self):
        found = told(*game(0, 2), value(0), tempo(0), value(0), players(30, 20, 1, 2), tempo(0), value(0))
        self.assertEqual([found[2], found[4], found[6]], [[80], [80], [80]])
        self.assertEqual(found[3], found[7])
        self.assertNotEqual(found[3], [80])

    def test_behind_an_order(self):
        for order in range(5):
            found = told(*game(0, 3), play(order), tempo(1), UNDO, tempo(1))
            self.assertEqual(found[5], last(*game(1, 3), value(1)))
        # A pass and a turn more come to the other's turn.
        self.assertEqual(last(*game(0, 3), tempo(2)), last(*game(0, 4), play(0), value(2)))
