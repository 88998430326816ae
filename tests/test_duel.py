"""Promise 11 (duel)."""

import itertools
import unittest

from tests.helper import COMPANY, PLAYED, STATE
from tests.helper import best, company, duel, game, greatest, last, line, play, players, told, too_great

WRONG_PLAYERS = (-1, 2, 3, -2147483648, 2147483647)


def one_after_another(calls, player, row):
    """What duel must answer, by best, play and orders alone."""
    orders = []
    row = list(row)
    turn, left = calls[-1][3:5]
    for step in range(left):
        played = [play(order) for order in orders]
        if (turn + step) % 2 == player:
            orders.append(last(*calls, *played, best(player))[0])
        elif not row or last(*calls, *played, play(row[0])) == [-3]:
            return [-3]
        else:
            orders.append(row.pop(0))
    if row:
        return [-3]
    return [left] + orders + last(*calls, *[play(order) for order in orders], [6])


class DuelTest(unittest.TestCase):
    def test_player_0_at_their_turn(self):
        self.assertEqual(last(*game(0, 2), duel(0, [0])), [2, 3, 0, 120, 65])
        self.assertEqual(last(*game(0, 2), duel(0, [2])), [2, 3, 2, 80, 65])

    def test_player_1_at_the_turn_of_player_0(self):
        self.assertEqual(last(*game(0, 2), duel(1, [3])), [2, 3, 0, 120, 65])
        self.assertEqual(last(*game(0, 2), duel(1, [4])), [2, 4, 0, 50, 30])

    def test_player_0_at_the_turn_of_player_1(self):
        self.assertEqual(last(*game(1, 2), duel(0, [2])), [2, 2, 3, 80, 40])
        self.assertEqual(last(*game(1, 2), duel(0, [1])), [2, 1, 0, 70, 40])

    def test_player_1_at_their_turn(self):
        calls = [company(1, 5, 1, 2, 0, [10, 20, 40]), players(0, 0, 1, 1)]
        self.assertEqual(last(*calls, duel(1, [])), [1, 3, 45, 90])

    def test_their_own_worth_and_no_other_goal(self):
        # For the lead, or against the other's worth, the share would be sold: that costs the other more.
        calls = [company(1, 5, 2, 5, 0, [10, 20, 40]), players(20, 30, 0, 1)]
        self.assertEqual(told(*calls, duel(0, []), best(1), best(2))[2:], [[1, 0, 60, 130], [2, 80], [2, -30]])
        calls = [company(1, 5, 5, 2, 0, [10, 20, 40]), players(30, 20, 1, 1)]
        self.assertEqual(told(*calls, duel(1, []), best(0), best(2))[2:], [[1, 0, 130, 60], [2, 80], [2, 30]])

    def test_one_turn(self):
        self.assertEqual(last(*game(0, 1), duel(0, [])), [1, 3, 120, 65])
        self.assertEqual(last(*game(0, 1), duel(1, [4])), [1, 4, 50, 30])
        self.assertEqual(last(*game(1, 1), duel(1, [])), [1, 0, 70, 40])
        self.assertEqual(last(*game(1, 1), duel(0, [2])), [1, 2, 50, 40])

    def test_no_turns_left(self):
        for player in (0, 1):
            for turn in (0, 1):
                self.assertEqual(last(*game(turn, 0), duel(player, [])), [0, 70, 40])
                self.assertEqual(last(*game(turn, 0), duel(player, [0])), [-3])
                self.assertEqual(last(*game(1 - turn, 1), play(0), duel(player, [])), [0, 70, 40])
            self.assertEqual(last(duel(player, [])), [0, 0, 0])

    def test_no_company(self):
        for player, turn in itertools.product((0, 1), (0, 1)):
            calls = [players(3, 5, turn, 8)]
            self.assertEqual(last(*calls, duel(player, [0] * 4)), [8] + [0] * 8 + [3, 5])
            for count in (0, 3, 5, 1000):
                self.assertEqual(last(*calls, duel(player, [0] * count)), [-3])

    def test_how_many_orders_the_row_must_have(self):
        for player, turn, left in itertools.product((0, 1), (0, 1), range(8)):
            turns = left // 2 if player == turn else (left + 1) // 2
            with self.subTest(player=player, turn=turn, left=left):
                for count in range(turns + 3):
                    found = last(*game(turn, left), duel(player, [0] * count))
                    if count == turns:
                        self.assertEqual([found[0], len(found)], [left, left + 3])
                    else:
                        self.assertEqual(found, [-3])

    def test_orders_that_may_not_be_given(self):
        for order in (-1, 5, 6, 9, -2147483648, 2147483647):
            self.assertEqual(last(*game(0, 1), duel(1, [order])), [-3])
            self.assertEqual(last(*game(1, 1), duel(0, [order])), [-3])
            self.assertEqual(last(*game(0, 3), duel(1, [0, order])), [-3])
        for order in (3, 4):
            self.assertEqual(last(*game(1, 1), duel(0, [order])), [-3])

    def test_orders_that_may_not_be_given_when_their_turn_comes(self):
        # At the beginning player 1 could buy; behind the order of player 0 the price is too high.
        self.assertEqual(last(*game(1, 1), duel(0, [1])), [1, 1, 70, 40])
        self.assertEqual(last(*game(0, 2), duel(0, [1])), [-3])
        # The one share of player 1 is sold once.
        self.assertEqual(last(*game(1, 3), duel(0, [2, 2])), [-3])

    def test_orders_that_may_be_given_only_when_their_turn_comes(self):
        # A share that is bought first can be sold then.
        calls = [company(0, 0, 0, 0, 1, [10]), players(0, 10, 1, 3)]
        self.assertEqual(last(*calls, duel(0, [1, 2])), [3, 1, 0, 2, 0, 10])
        self.assertEqual(last(*calls, duel(0, [2, 1])), [-3])

    def test_wrong_players(self):
        for player in WRONG_PLAYERS:
            for left in (0, 1, 8):
                for row in ([], [0], [-1]):
                    self.assertEqual(last(*game(0, left), duel(player, row)), [-2])

    def test_too_many_positions(self):
        for turn in (0, 1):
            for calls in too_great(turn):
                for player in (0, 1):
                    for row in ([], [0], [-1], [0] * 4):
                        self.assertEqual(last(*calls, duel(player, row)), [-7])
                for player in WRONG_PLAYERS:
                    self.assertEqual(last(*calls, duel(player, [0] * 4)), [-2])

    def test_changes_and_plays_nothing(self):
        expected = told(*PLAYED, *STATE)[-len(STATE):]
        cases = [(0, [0], 2), (1, [3], -3), (1, [0], 2), (0, [], -3), (0, [0, 0], -3), (2, [0], -2), (-1, [], -2)]
        for player, row, first in cases:
            with self.subTest(player=player, row=row):
                found = told(*PLAYED, duel(player, row), *STATE)[len(PLAYED):]
                self.assertEqual(found[0][0], first)
                self.assertEqual(found[1:], expected)

    def test_refused_for_too_many_changes_nothing(self):
        played = [COMPANY, COMPANY, players(30, 20, 0, 8), play(3), play(0)]
        expected = told(*played, *STATE)[-len(STATE):]
        self.assertEqual(told(*played, duel(0, [0] * 4), *STATE)[len(played):], [[-7]] + expected)

    def test_the_row_is_all_that_is_read(self):
        found = told(*game(0, 2), duel(0, [2]), duel(2, [12, 13, 14]), [6], duel(0, []), [6])
        self.assertEqual(found[2:], [[2, 3, 2, 80, 65], [-2], [70, 40], [-3], [70, 40]])

    def test_the_other_giving_the_best_orders_too(self):
        for turn in (0, 1):
            for calls in greatest(turn):
                for player in (0, 1):
                    found = last(*calls, line(player))
                    orders = found[1:-2]
                    row = orders[1::2] if player == turn else orders[0::2]
                    self.assertEqual(last(*calls, duel(player, row)), found)

    def test_against_best_and_play(self):
        for player, turn, left in itertools.product((0, 1), (0, 1), (1, 2, 3)):
            calls = game(turn, left)
            turns = left // 2 if player == turn else (left + 1) // 2
            for row in itertools.product(range(6), repeat=turns):
                with self.subTest(player=player, turn=turn, row=row):
                    self.assertEqual(last(*calls, duel(player, row)), one_after_another(calls, player, row))
