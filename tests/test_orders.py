"""Promises 3 (orders), 4 (play), 5 (undo), 6 (worth)."""

import unittest

from tests.helper import COMPANY, ORDERS, SHOW, UNDO, WORTH, company, game, last, play, players, told


def shown_behind(order, *calls):
    return last(*calls, play(order), SHOW)


class OrdersTest(unittest.TestCase):
    def test_of_who_presides(self):
        self.assertEqual(last(*game(0, 1), ORDERS), [5, 0, 1, 2, 3, 4])

    def test_of_who_does_not(self):
        self.assertEqual(last(*game(1, 1), ORDERS), [3, 0, 1, 2])

    def test_of_player_1_presiding(self):
        self.assertEqual(last(company(0, 5, 1, 2, 0, [10]), players(0, 0, 1, 1), ORDERS), [4, 0, 2, 3, 4])
        self.assertEqual(last(company(0, 5, 1, 2, 0, [10]), players(0, 0, 0, 1), ORDERS), [2, 0, 2])

    def test_nobody_presides_with_equal_shares(self):
        for turn in (0, 1):
            self.assertEqual(last(company(0, 5, 2, 2, 0, [10]), players(0, 0, turn, 1), ORDERS), [2, 0, 2])
            self.assertEqual(last(company(0, 5, 0, 0, 0, [10]), players(0, 0, turn, 1), ORDERS), [1, 0])

    def test_presiding_with_one_share(self):
        self.assertEqual(last(company(0, 5, 1, 0, 0, [10]), players(0, 0, 0, 1), ORDERS), [4, 0, 2, 3, 4])

    def test_no_turns_left(self):
        self.assertEqual(last(*game(0, 0), ORDERS), [0])
        self.assertEqual(told(ORDERS), [[0]])

    def test_eight_turns_left(self):
        self.assertEqual(last(*game(0, 8), ORDERS), [5, 0, 1, 2, 3, 4])

    def test_no_company(self):
        self.assertEqual(last(players(5, 5, 0, 1), ORDERS), [1, 0])

    def test_buying_for_all_the_money(self):
        for turn, money in ((0, (20, 0)), (1, (0, 20))):
            stands = company(1, 5, 0, 0, 1, [10, 20, 40])
            self.assertEqual(last(stands, players(money[0], money[1], turn, 1), ORDERS), [2, 0, 1])

    def test_buying_with_too_little_money(self):
        for turn, money in ((0, (19, 1000)), (1, (1000, 19))):
            stands = company(1, 5, 0, 0, 1, [10, 20, 40])
            self.assertEqual(last(stands, players(money[0], money[1], turn, 1), ORDERS), [1, 0])

    def test_buying_from_an_empty_pool(self):
        self.assertEqual(last(company(0, 5, 0, 0, 0, [10]), players(99, 99, 0, 1), ORDERS), [1, 0])

    def test_of_three_companies(self):
        calls = [company(0, 5, 0, 0, 1, [10]), company(0, 5, 1, 2, 0, [10]), company(0, 5, 2, 1, 1, [10])]
        self.assertEqual(last(*calls, players(10, 0, 0, 1), ORDERS), [7, 0, 1, 6, 9, 10, 11, 12])
        self.assertEqual(last(*calls, players(10, 0, 1, 1), ORDERS), [5, 0, 6, 7, 8, 10])
        self.assertEqual(last(*[calls[2]] * 3, players(10, 0, 0, 1), ORDERS), [13] + list(range(13)))

    def test_moving_at_either_end(self):
        for place in (0, 2):
            stands = company(place, 5, 2, 1, 0, [10, 20, 40])
            self.assertEqual(last(stands, players(0, 0, 0, 1), ORDERS), [4, 0, 2, 3, 4])


class PlayTest(unittest.TestCase):
    def test_pass(self):
        self.assertEqual(last(*game(0, 3), play(0)), [70, 40])
        self.assertEqual(shown_behind(0, *game(0, 3)), [30, 20, 1, 2, 1, 1, 5, 2, 1, 1, 3, 10, 20, 40])
        self.assertEqual(shown_behind(0, *game(1, 3)), [30, 20, 0, 2, 1, 1, 5, 2, 1, 1, 3, 10, 20, 40])

    def test_buy(self):
        self.assertEqual(last(*game(0, 3), play(1)), [70, 40])
        self.assertEqual(shown_behind(1, *game(0, 3)), [10, 20, 1, 2, 1, 1, 5, 3, 1, 0, 3, 10, 20, 40])
        self.assertEqual(shown_behind(1, *game(1, 3)), [30, 0, 0, 2, 1, 1, 5, 2, 2, 0, 3, 10, 20, 40])

    def test_sell(self):
        self.assertEqual(last(*game(0, 3), play(2)), [60, 30])
        self.assertEqual(shown_behind(2, *game(0, 3)), [50, 20, 1, 2, 1, 0, 5, 1, 1, 2, 3, 10, 20, 40])
        self.assertEqual(last(*game(1, 3), play(2)), [50, 40])
        self.assertEqual(shown_behind(2, *game(1, 3)), [30, 40, 0, 2, 1, 0, 5, 2, 0, 2, 3, 10, 20, 40])

    def test_pay_out(self):
        self.assertEqual(last(*game(0, 3), play(3)), [120, 65])
        self.assertEqual(shown_behind(3, *game(0, 3)), [40, 25, 1, 2, 1, 2, 5, 2, 1, 1, 3, 10, 20, 40])

    def test_keep(self):
        self.assertEqual(last(*game(0, 3), play(4)), [50, 30])
        self.assertEqual(shown_behind(4, *game(0, 3)), [30, 20, 1, 2, 1, 0, 5, 2, 1, 1, 3, 10, 20, 40])

    def test_player_1_presiding(self):
        calls = [company(1, 5, 1, 2, 1, [10, 20, 40]), players(30, 20, 1, 3)]
        self.assertEqual(shown_behind(3, *calls), [35, 30, 0, 2, 1, 2, 5, 1, 2, 1, 3, 10, 20, 40])
        self.assertEqual(shown_behind(4, *calls), [30, 20, 0, 2, 1, 0, 5, 1, 2, 1, 3, 10, 20, 40])

    def test_at_the_lowest_place(self):
        calls = [company(0, 5, 2, 1, 1, [10, 20]), players(30, 20, 0, 3)]
        self.assertEqual(shown_behind(2, *calls), [40, 20, 1, 2, 1, 0, 5, 1, 1, 2, 2, 10, 20])
        self.assertEqual(shown_behind(4, *calls), [30, 20, 1, 2, 1, 0, 5, 2, 1, 1, 2, 10, 20])

    def test_at_the_last_place(self):
        calls = [company(1, 5, 2, 1, 1, [10, 20]), players(30, 20, 0, 3)]
        self.assertEqual(shown_behind(3, *calls), [40, 25, 1, 2, 1, 1, 5, 2, 1, 1, 2, 10, 20])

    def test_at_the_only_place(self):
        calls = [company(0, 5, 2, 1, 1, [10]), players(30, 20, 0, 3)]
        self.assertEqual([shown_behind(order, *calls)[5] for order in range(5)], [0, 0, 0, 0, 0])

    def test_moves_one_place_alone(self):
        for place in range(1, 7):
            calls = [company(place, 0, 2, 1, 1, range(1, 9)), players(9, 9, 0, 3)]
            places = [shown_behind(order, *calls)[5] for order in range(5)]
            self.assertEqual(places, [place, place, place - 1, place + 1, place - 1])

    def test_at_the_last_of_eight_places(self):
        calls = [company(6, 0, 2, 1, 1, range(1, 9)), players(0, 0, 0, 3)]
        self.assertEqual(last(*calls, play(3), play(0), play(3), SHOW)[5], 7)

    def test_buy_for_all_the_money(self):
        calls = [company(0, 5, 0, 0, 1, [10]), players(10, 0, 0, 1)]
        self.assertEqual(told(*calls, play(1), SHOW)[2:], [[10, 0], [0, 0, 1, 0, 1, 0, 5, 1, 0, 0, 1, 10]])

    def test_more_than_when_told(self):
        # A pool above 9 and money above a million come about by play alone.
        calls = [company(0, 1000000, 9, 1, 9, [1000000]), players(1000000, 0, 0, 2)]
        self.assertEqual(
            told(*calls, play(3), play(2), SHOW)[2:],
            [[19000000, 2000000], [19000000, 2000000], [10000000, 2000000, 0, 0, 1, 0, 1000000, 9, 0, 10, 1, 1000000]],
        )

    def test_more_than_9_shares(self):
        calls = [company(0, 0, 9, 0, 9, [1]), players(9, 9, 0, 1)]
        self.assertEqual(told(*calls, play(1), SHOW)[2:], [[18, 9], [8, 9, 1, 0, 1, 0, 0, 10, 0, 8, 1, 1]])

    def test_the_other_companies_stay(self):
        calls = [company(1, k, 3, 1, 2, [10, 20, 30]) for k in range(3)] + [players(50, 50, 0, 2)]
        before = last(*calls, SHOW)
        for order in range(1, 13):
            with self.subTest(order):
                behind = shown_behind(order, *calls)
                changed = (order - 1) // 4
                for k in range(3):
                    part = slice(5 + 9 * k, 14 + 9 * k)
                    self.assertEqual(behind[part] == before[part], k != changed)

    def test_a_whole_game(self):
        found = told(*game(0, 4), play(1), play(2), play(3), play(1), SHOW, ORDERS)
        self.assertEqual(
            found[2:],
            [[70, 40], [40, 40], [85, 40], [85, 40], [25, 20, 0, 0, 1, 1, 5, 3, 1, 0, 3, 10, 20, 40], [0]],
        )

    def test_no_turns_left(self):
        for order in (0, 1, 5, -1, 99):
            found = told(*game(0, 0), SHOW, play(order), SHOW, UNDO)
            self.assertEqual(found[3:], [[-5], found[2], [-6]])
        self.assertEqual(last(*game(0, 1), play(0), play(0)), [-5])

    def test_what_may_not_be_given(self):
        cases = [
            (game(0, 2), (-1, 5, 6, 7, 8, 9, -2147483648, 2147483647)),
            (game(1, 2), (3, 4)),
            ([company(0, 5, 1, 1, 0, [10]), players(10, 10, 0, 2)], (1, 3, 4)),
            ([company(0, 5, 0, 0, 1, [10]), players(9, 10, 0, 2)], (1, 2, 3, 4)),
            ([players(9, 10, 0, 2)], (-4, -3, -2, -1, 1, 2, 3, 4)),
        ]
        for calls, orders in cases:
            for order in orders:
                with self.subTest(order):
                    found = told(*calls, play(0), UNDO, SHOW, play(order), SHOW, UNDO)
                    self.assertEqual(found[-3:], [[-3], found[-4], [-6]])


class UndoTest(unittest.TestCase):
    def test_behind_each_order(self):
        before = last(*game(0, 3), SHOW)
        for order in range(5):
            self.assertEqual(told(*game(0, 3), play(order), UNDO, SHOW)[3:], [[0], before])

    def test_back_to_the_first_and_once_more(self):
        forth = [SHOW, play(1), SHOW, play(2), SHOW, play(3)]
        found = told(*game(0, 3), *forth, *[UNDO, SHOW] * 4)
        self.assertEqual(found[8:], [[0], found[6], [0], found[4], [0], found[2], [-6], found[2]])

    def test_nothing_played(self):
        self.assertEqual(told(UNDO, SHOW), [[-6], [0, 0, 0, 0, 0]])
        self.assertEqual(last(*game(0, 3), UNDO), [-6])

    def test_what_is_taken_back_is_gone(self):
        found = told(*game(0, 3), SHOW, play(1), UNDO, play(3), SHOW, UNDO, SHOW, UNDO)
        self.assertEqual(found[6], [40, 25, 1, 2, 1, 2, 5, 2, 1, 1, 3, 10, 20, 40])
        self.assertEqual(found[7:], [[0], found[2], [-6]])

    def test_eight_orders(self):
        found = told(*game(0, 8), SHOW, *[play(0)] * 8, play(0), *[UNDO] * 8, SHOW, UNDO)
        self.assertEqual(found[11:], [[-5]] + [[0]] * 8 + [found[2], [-6]])

    def test_refused_orders_are_not_played(self):
        found = told(*game(0, 2), SHOW, play(1), play(3), UNDO, SHOW, UNDO)
        self.assertEqual(found[4:], [[-3], [0], found[2], [-6]])

    def test_behind_calls_that_only_tell(self):
        found = told(*game(0, 2), SHOW, play(1), [2], [3], [6], [7, 0], [8, 2], [7, 3], [8, 3], UNDO, SHOW)
        self.assertEqual(found[-2:], [[0], found[2]])


class WorthTest(unittest.TestCase):
    def test_a_beginning(self):
        self.assertEqual(told(WORTH), [[0, 0]])

    def test_money_and_shares(self):
        self.assertEqual(last(*game(0, 2), WORTH), [70, 40])

    def test_money_alone(self):
        self.assertEqual(last(players(3, 4, 0, 0), WORTH), [3, 4])

    def test_shares_alone(self):
        self.assertEqual(last(COMPANY, WORTH), [40, 20])

    def test_each_company_at_its_own_price(self):
        calls = [company(0, 9, 1, 4, 9, [100, 500]), company(1, 9, 2, 5, 9, [7, 1000]), company(0, 9, 3, 6, 9, [10000])]
        self.assertEqual(last(*calls, players(5, 8, 1, 0), WORTH), [32105, 65408])

    def test_greatest(self):
        calls = [company(0, 0, 9, 9, 9, [1000000])] * 3
        self.assertEqual(last(*calls, players(1000000, 1000000, 0, 8), WORTH), [28000000, 28000000])

    def test_as_it_stands_behind_play_and_undo(self):
        self.assertEqual(told(*game(0, 2), play(3), WORTH, UNDO, WORTH)[2:], [[120, 65], [120, 65], [0], [70, 40]])
