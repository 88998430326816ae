"""Promises 0 (company), 1 (players), 2 (show)."""

import unittest

from tests.helper import COMPANY, COMPANY_SHOWN, ORDERS, SHOW, UNDO, WORTH, company, game, last, play, players, told

MILLION = 1000000
LEAST = -2147483648
MOST = 2147483647

WRONG_COMPANIES = {
    "no price": company(0, 5, 1, 1, 1, []),
    "9 prices": company(0, 5, 1, 1, 1, range(1, 10)),
    "1000 prices": company(0, 5, 1, 1, 1, range(1, 1001)),
    "a first price of 0": company(1, 5, 1, 1, 1, [0, 1]),
    "a price below 0": company(1, 5, 1, 1, 1, [-1, 1]),
    "a price above a million": company(0, 5, 1, 1, 1, [1, MILLION + 1]),
    "equal prices": company(0, 5, 1, 1, 1, [1, 2, 2]),
    "equal first prices": company(0, 5, 1, 1, 1, [2, 2, 3]),
    "a price that falls": company(0, 5, 1, 1, 1, [1, 3, 2]),
    "a place below 0": company(-1, 5, 1, 1, 1, [1, 2]),
    "a place behind the last": company(2, 5, 1, 1, 1, [1, 2]),
    "the least place": company(LEAST, 5, 1, 1, 1, [1, 2]),
    "the greatest place": company(MOST, 5, 1, 1, 1, [1, 2]),
    "a pay below 0": company(0, -1, 1, 1, 1, [1, 2]),
    "a pay above a million": company(0, MILLION + 1, 1, 1, 1, [1, 2]),
    "shares of 0 below 0": company(0, 5, -1, 1, 1, [1, 2]),
    "10 shares of 0": company(0, 5, 10, 1, 1, [1, 2]),
    "shares of 1 below 0": company(0, 5, 1, -1, 1, [1, 2]),
    "10 shares of 1": company(0, 5, 1, 10, 1, [1, 2]),
    "a pool below 0": company(0, 5, 1, 1, -1, [1, 2]),
    "a pool of 10": company(0, 5, 1, 1, 10, [1, 2]),
}

WRONG_PLAYERS = {
    "money of 0 below 0": players(-1, 0, 0, 1),
    "money of 0 above a million": players(MILLION + 1, 0, 0, 1),
    "money of 1 below 0": players(0, -1, 0, 1),
    "money of 1 above a million": players(0, MILLION + 1, 0, 1),
    "turn -1": players(0, 0, -1, 1),
    "turn 2": players(0, 0, 2, 1),
    "left -1": players(0, 0, 0, -1),
    "left 9": players(0, 0, 0, 9),
    "the least": players(LEAST, LEAST, LEAST, LEAST),
    "the greatest": players(MOST, MOST, MOST, MOST),
}


class CompanyTest(unittest.TestCase):
    def test_answers_the_new_number(self):
        self.assertEqual(told(COMPANY, COMPANY, COMPANY), [[0], [1], [2]])

    def test_is_shown_as_told(self):
        self.assertEqual(last(COMPANY, SHOW), [0, 0, 0, 0, 1] + COMPANY_SHOWN)

    def test_comes_behind_those_before(self):
        other = company(0, 7, 3, 4, 5, [8])
        self.assertEqual(last(COMPANY, other, SHOW), [0, 0, 0, 0, 2] + COMPANY_SHOWN + [0, 7, 3, 4, 5, 1, 8])

    def test_leaves_the_players(self):
        self.assertEqual(last(players(4, 5, 1, 6), COMPANY, SHOW), [4, 5, 1, 6, 1] + COMPANY_SHOWN)

    def test_one_price_and_least_numbers(self):
        self.assertEqual(told(company(0, 0, 0, 0, 0, [1]), SHOW), [[0], [0, 0, 0, 0, 1, 0, 0, 0, 0, 0, 1, 1]])

    def test_eight_prices_and_greatest_numbers(self):
        prices = [1, 2, 3, 4, 5, 6, 7, MILLION]
        call = company(7, MILLION, 9, 9, 9, prices)
        self.assertEqual(told(call, SHOW), [[0], [0, 0, 0, 0, 1, 7, MILLION, 9, 9, 9, 8] + prices])

    def test_every_place_is_taken(self):
        for place in range(3):
            self.assertEqual(told(company(place, 5, 2, 1, 1, [10, 20, 40])), [[0]])

    def test_wrong_numbers(self):
        for reason, call in WRONG_COMPANIES.items():
            with self.subTest(reason):
                self.assertEqual(told(COMPANY, call, SHOW)[1:], [[-2], last(COMPANY, SHOW)])

    def test_a_fourth(self):
        found = told(COMPANY, COMPANY, COMPANY, SHOW, COMPANY, SHOW)
        self.assertEqual(found[4], [-4])
        self.assertEqual(found[5], found[3])

    def test_a_wrong_fourth(self):
        for reason, call in WRONG_COMPANIES.items():
            with self.subTest(reason):
                self.assertEqual(last(COMPANY, COMPANY, COMPANY, call), [-2])

    def test_refused_ones_are_not_counted(self):
        wrong = WRONG_COMPANIES["no price"]
        self.assertEqual(told(wrong, COMPANY, wrong, COMPANY), [[-2], [0], [-2], [1]])

    def test_makes_that_nothing_has_been_played(self):
        found = told(*game(0, 2), play(3), COMPANY, UNDO, SHOW)
        self.assertEqual(found[4], [-6])
        self.assertEqual(found[5], [40, 25, 1, 1, 2, 2, 5, 2, 1, 1, 3, 10, 20, 40] + COMPANY_SHOWN)

    def test_refused_leaves_what_has_been_played(self):
        found = told(*game(0, 2), SHOW, play(3), WRONG_COMPANIES["no price"], UNDO, SHOW)
        self.assertEqual(found[5], [0])
        self.assertEqual(found[6], found[2])

    def test_a_refused_fourth_leaves_what_has_been_played(self):
        found = told(COMPANY, COMPANY, *game(0, 2), SHOW, play(3), COMPANY, UNDO, SHOW)
        self.assertEqual(found[6:], [[-4], [0], found[4]])


class PlayersTest(unittest.TestCase):
    def test_are_shown_as_told(self):
        self.assertEqual(told(players(30, 20, 1, 3), SHOW), [[0], [30, 20, 1, 3, 0]])

    def test_leave_the_companies(self):
        self.assertEqual(last(COMPANY, players(30, 20, 1, 3), SHOW), [30, 20, 1, 3, 1] + COMPANY_SHOWN)

    def test_hold_from_now_on(self):
        self.assertEqual(last(players(30, 20, 1, 3), players(1, 2, 0, 0), SHOW), [1, 2, 0, 0, 0])

    def test_least_and_greatest(self):
        self.assertEqual(told(players(0, 0, 0, 0), SHOW), [[0], [0, 0, 0, 0, 0]])
        self.assertEqual(told(players(MILLION, MILLION, 1, 8), SHOW), [[0], [MILLION, MILLION, 1, 8, 0]])

    def test_wrong_numbers(self):
        for reason, call in WRONG_PLAYERS.items():
            with self.subTest(reason):
                self.assertEqual(told(players(3, 4, 1, 5), call, SHOW)[1:], [[-2], [3, 4, 1, 5, 0]])

    def test_make_that_nothing_has_been_played(self):
        found = told(*game(0, 2), play(3), players(1, 2, 0, 3), UNDO, SHOW)
        self.assertEqual(found[4], [-6])
        self.assertEqual(found[5], [1, 2, 0, 3, 1, 2, 5, 2, 1, 1, 3, 10, 20, 40])

    def test_refused_leave_what_has_been_played(self):
        found = told(*game(0, 2), SHOW, play(3), WRONG_PLAYERS["left 9"], UNDO, SHOW)
        self.assertEqual(found[4:], [[-2], [0], found[2]])


class ShowTest(unittest.TestCase):
    def test_a_beginning(self):
        self.assertEqual(told(SHOW), [[0, 0, 0, 0, 0]])

    def test_three_companies(self):
        calls = [company(0, 1, 2, 3, 4, [5]), company(1, 6, 7, 8, 9, [10, 11]), company(2, 12, 0, 1, 2, [13, 14, 15])]
        self.assertEqual(
            last(*calls, players(16, 17, 1, 8), SHOW),
            [16, 17, 1, 8, 3, 0, 1, 2, 3, 4, 1, 5, 1, 6, 7, 8, 9, 2, 10, 11, 2, 12, 0, 1, 2, 3, 13, 14, 15],
        )

    def test_changes_nothing(self):
        found = told(*game(0, 2), play(3), SHOW, SHOW, UNDO, WORTH, ORDERS)
        self.assertEqual(found[3], found[4])
        self.assertEqual(found[5:], [[0], [70, 40], [5, 0, 1, 2, 3, 4]])
