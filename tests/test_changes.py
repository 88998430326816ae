"""Promises 12 (swap), 13 (scale), 14 (clear), 16 (price)."""

import unittest

from tests.helper import CLEAR, COMPANY, COMPANY_SHOWN, ORDERS, PLAYED, SHOW, STATE, SWAP, UNDO, WORTH
from tests.helper import best, company, game, greatest, last, play, players, price, scale, told, value

MILLION = 1000000
LEAST = -2147483648
MOST = 2147483647


class Changes(unittest.TestCase):
    def assert_refused(self, calls, call, number):
        """The call is refused, and all behind it is as if it had not been."""
        expected = told(*calls, *STATE)[-len(STATE):]
        with self.subTest(call=call):
            self.assertEqual(told(*calls, call, *STATE)[len(calls):], [[number]] + expected)

    def assert_nothing_played_behind(self, call):
        found = told(*PLAYED, call, SHOW, UNDO, SHOW)[-4:]
        self.assertEqual([found[0], found[2]], [[0], [-6]])
        self.assertEqual(found[1], found[3])


class SwapTest(Changes):
    def test_money_shares_and_turn(self):
        self.assertEqual(told(*game(0, 2), SWAP, SHOW)[2:], [[0], [20, 30, 1, 2, 1, 1, 5, 1, 2, 1, 3, 10, 20, 40]])
        self.assertEqual(told(*game(1, 2), SWAP, SHOW)[2:], [[0], [20, 30, 0, 2, 1, 1, 5, 1, 2, 1, 3, 10, 20, 40]])

    def test_every_company(self):
        calls = [company(0, 1, 2, 3, 4, [5]), company(1, 6, 7, 8, 9, [10, 11]), company(2, 12, 0, 1, 2, [13, 14, 15])]
        self.assertEqual(
            last(*calls, players(16, 17, 1, 8), SWAP, SHOW),
            [17, 16, 0, 8, 3, 0, 1, 3, 2, 4, 1, 5, 1, 6, 8, 7, 9, 2, 10, 11, 2, 12, 1, 0, 2, 3, 13, 14, 15],
        )

    def test_a_beginning(self):
        self.assertEqual(told(SWAP, SHOW), [[0], [0, 0, 1, 0, 0]])

    def test_twice(self):
        for calls in greatest(0) + greatest(1):
            found = told(*calls, SHOW, SWAP, SWAP, SHOW)[-4:]
            self.assertEqual(found[1:], [[0], [0], found[0]])

    def test_what_play_brought(self):
        calls = [company(0, MILLION, 9, 1, 9, [MILLION]), players(MILLION, 0, 0, 2), play(3), play(2)]
        self.assertEqual(last(*calls, SWAP, SHOW), [2000000, 10000000, 1, 0, 1, 0, MILLION, 0, 9, 10, 1, MILLION])

    def test_worths_and_orders(self):
        found = told(*game(0, 2), WORTH, ORDERS, SWAP, WORTH, ORDERS)
        self.assertEqual(found[2:], [[70, 40], [5, 0, 1, 2, 3, 4], [0], [40, 70], [5, 0, 1, 2, 3, 4]])

    def test_values_from_the_other_side(self):
        for turn in (0, 1):
            for calls in greatest(turn):
                found = told(*calls, value(0), value(1), value(2), SWAP, value(0), value(1), value(2))[-7:]
                self.assertEqual(found[4:], [found[1], found[0], [-found[2][0]]])

    def test_nothing_has_been_played(self):
        self.assert_nothing_played_behind(SWAP)


class ScaleTest(Changes):
    def test_money_prices_and_pays(self):
        self.assertEqual(
            told(*game(0, 2), scale(3), SHOW)[2:],
            [[0], [90, 60, 0, 2, 1, 1, 15, 2, 1, 1, 3, 30, 60, 120]],
        )

    def test_every_company(self):
        calls = [company(0, 1, 2, 3, 4, [5]), company(1, 6, 7, 8, 9, [10, 11]), company(2, 12, 0, 1, 2, [13, 14, 15])]
        self.assertEqual(
            last(*calls, players(16, 17, 1, 8), scale(10), SHOW),
            [160, 170, 1, 8, 3, 0, 10, 2, 3, 4, 1, 50, 1, 60, 7, 8, 9, 2, 100, 110,
             2, 120, 0, 1, 2, 3, 130, 140, 150],
        )

    def test_by_1(self):
        self.assertEqual(told(*game(1, 3), scale(1), SHOW)[2:], [[0], [30, 20, 1, 3, 1] + COMPANY_SHOWN])

    def test_by_a_million(self):
        calls = [company(0, 1, 9, 8, 7, [1]), players(1, 1, 1, 4)]
        self.assertEqual(
            told(*calls, scale(MILLION), SHOW)[2:],
            [[0], [MILLION, MILLION, 1, 4, 1, 0, MILLION, 9, 8, 7, 1, MILLION]],
        )
        self.assertEqual(told(scale(MILLION), SHOW), [[0], [0, 0, 0, 0, 0]])

    def test_wrong_times(self):
        for k in (0, -1, MILLION + 1, LEAST, MOST):
            self.assertEqual(told(scale(k), SHOW), [[-2], [0, 0, 0, 0, 0]])
            self.assert_refused(PLAYED, scale(k), -2)

    def test_up_to_a_million(self):
        cases = [
            [players(500000, 0, 0, 1)],
            [players(0, 500000, 0, 1)],
            [company(0, 500000, 0, 0, 0, [1])],
            [company(0, 0, 0, 0, 0, [500000])],
            [company(0, 0, 0, 0, 0, [1, 500000])],
            [company(0, 500000, 9, 9, 9, [499999, 500000]), players(500000, 500000, 0, 8)],
            [COMPANY, COMPANY, company(0, 0, 0, 0, 0, [1, 500000])],
            [COMPANY, COMPANY, company(0, 500000, 0, 0, 0, [1])],
        ]
        for calls in cases:
            with self.subTest(calls=calls):
                self.assertEqual(last(*calls, scale(2)), [0])
                self.assert_refused(calls, scale(3), -2)
                self.assert_refused(calls + [scale(2)], scale(2), -2)
                self.assertEqual(last(*calls, scale(2), scale(1)), [0])

    def test_just_above_a_million(self):
        cases = [
            [players(500001, 0, 0, 1)],
            [players(0, 500001, 0, 1)],
            [company(0, 500001, 0, 0, 0, [1])],
            [company(0, 0, 0, 0, 0, [500001])],
            [company(0, 0, 0, 0, 0, [1, 500001])],
            [company(0, 0, 0, 0, 0, [1, 500001]), COMPANY, COMPANY],
            [COMPANY, company(0, 500001, 0, 0, 0, [1]), COMPANY],
            [COMPANY, COMPANY, company(1, 0, 0, 0, 0, [1, 2, 3, 4, 5, 6, 7, 500001])],
        ]
        for calls in cases:
            self.assert_refused(calls, scale(2), -2)

    def test_worths_may_be_above_a_million(self):
        calls = [company(0, 0, 9, 9, 9, [500000]), players(500000, 500000, 0, 1)]
        self.assertEqual(told(*calls, scale(2), WORTH)[2:], [[0], [10000000, 10000000]])

    def test_money_above_a_million_by_play(self):
        for turn, shares in ((0, (1, 0)), (1, (0, 1))):
            calls = [company(0, 1, shares[0], shares[1], 0, [5]), players(MILLION, MILLION, turn, 3)]
            self.assertEqual(last(*calls, scale(1)), [0])
            self.assert_refused(calls + [play(3)], scale(1), -2)
            self.assert_refused(calls + [play(3)], scale(2), -2)
            self.assertEqual(last(*calls, play(3), UNDO, scale(1)), [0])

    def test_money_brought_just_to_a_million_by_play(self):
        calls = [company(0, 1, 1, 0, 0, [5]), players(MILLION - 1, MILLION, 0, 3), play(3)]
        self.assertEqual(told(*calls, scale(1), SHOW)[3:], [[0], [MILLION, MILLION, 1, 2, 1, 0, 1, 1, 0, 0, 1, 5]])

    def test_shares_above_9_by_play(self):
        calls = [company(0, 0, 9, 0, 9, [1]), players(9, 9, 0, 1), play(1)]
        self.assertEqual(told(*calls, scale(2), SHOW)[3:], [[0], [16, 18, 1, 0, 1, 0, 0, 10, 0, 8, 1, 2]])

    def test_values_and_best_orders_scale_too(self):
        for turn in (0, 1):
            for calls in greatest(turn):
                for goal in (0, 1, 2):
                    found = told(*calls, best(goal), scale(7), best(goal))[-3:]
                    self.assertEqual(found[2], [found[0][0], 7 * found[0][1]])

    def test_nothing_has_been_played(self):
        self.assert_nothing_played_behind(scale(1))
        self.assert_nothing_played_behind(scale(2))


class ClearTest(Changes):
    def test_as_at_the_beginning(self):
        for calls in ([], game(1, 3), PLAYED, greatest(1)[2], [COMPANY] * 3):
            found = told(*calls, CLEAR, SHOW, ORDERS, WORTH, value(2))[len(calls):]
            self.assertEqual(found, [[0], [0, 0, 0, 0, 0], [0], [0, 0], [0]])

    def test_companies_are_numbered_anew(self):
        found = told(COMPANY, COMPANY, COMPANY, CLEAR, COMPANY, SHOW)
        self.assertEqual(found[3:], [[0], [0], [0, 0, 0, 0, 1] + COMPANY_SHOWN])

    def test_another_game_behind_it(self):
        other = [company(1, 5, 2, 1, 1, [1, 2, 400]), players(30, 20, 0, 2)]
        asked = [value(0), value(1), value(2), best(0), best(1), best(2)]
        self.assertEqual(told(*game(0, 2), *asked, CLEAR, *other, *asked)[-6:], told(*other, *asked)[-6:])

    def test_nothing_has_been_played(self):
        self.assert_nothing_played_behind(CLEAR)


class PriceTest(Changes):
    def test_the_company_stands_there(self):
        for place in range(3):
            self.assertEqual(
                told(*game(1, 2), price(0, place), SHOW)[2:],
                [[0], [30, 20, 1, 2, 1, place, 5, 2, 1, 1, 3, 10, 20, 40]],
            )

    def test_the_other_companies_stay(self):
        places = [last(COMPANY, COMPANY, COMPANY, price(k, 2), SHOW)[5::9] for k in range(3)]
        self.assertEqual(places, [[2, 1, 1], [1, 2, 1], [1, 1, 2]])

    def test_the_last_of_eight_places_and_the_only_one(self):
        self.assertEqual(told(company(0, 0, 0, 0, 0, range(1, 9)), price(0, 7), SHOW)[1:][1][5], 7)
        self.assertEqual(told(company(0, 0, 0, 0, 0, [4]), price(0, 0))[1], [0])

    def test_no_such_company(self):
        self.assertEqual(told(price(0, 0), price(-1, 0), price(0, -1)), [[-1], [-1], [-1]])
        for number in (-1, 1, 2, 3, LEAST, MOST):
            for place in (0, 1, 2, -1, 3, LEAST, MOST):
                self.assert_refused(PLAYED, price(number, place), -1)
        self.assertEqual(told(COMPANY, COMPANY, COMPANY, price(3, 0), price(2, 0))[3:], [[-1], [0]])

    def test_no_such_place(self):
        for place in (-1, -2, -3, 3, LEAST, MOST):
            self.assert_refused(PLAYED, price(0, place), -2)
        self.assertEqual(last(company(0, 0, 0, 0, 0, [4]), price(0, 1)), [-2])
        self.assertEqual(last(company(0, 0, 0, 0, 0, range(1, 9)), price(0, 8)), [-2])

    def test_each_company_has_its_own_places(self):
        calls = [company(0, 0, 0, 0, 0, [1]), company(0, 0, 0, 0, 0, [1, 2]), company(0, 0, 0, 0, 0, [1, 2, 3])]
        found = [told(*calls, *[price(k, place) for place in range(4)])[3:] for k in range(3)]
        self.assertEqual(found, [[[0], [-2], [-2], [-2]], [[0], [0], [-2], [-2]], [[0], [0], [0], [-2]]])

    def test_worths_and_values(self):
        found = told(*game(0, 1), value(0), price(0, 0), WORTH, value(0), price(0, 2), WORTH, value(0))
        self.assertEqual(found[2:], [[120], [0], [50, 30], [80], [0], [110, 60], [120]])

    def test_nothing_has_been_played(self):
        self.assert_nothing_played_behind(price(0, 1))
        self.assert_nothing_played_behind(price(0, 2))
