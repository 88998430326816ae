"""The same calls reckoned a second time, word by word and with nothing remembered, on made-up games."""

import random
import unittest

from tests.helper import GOALS, best, company, duel, greatest, line, play, players, tempo, told, value, values


# By the calls' numbers; a value below 0 stands alone too, so value and tempo are left out.
REFUSALS = {
    0: {-2, -4}, 1: {-2}, 2: set(), 3: set(), 4: {-5, -3}, 5: {-6}, 6: set(), 8: {-2, -5, -7}, 9: {-2, -7},
    10: {-2, -7}, 11: {-2, -7, -3}, 12: set(), 13: {-2}, 14: set(), 16: {-1, -2},
}


class Plain:
    """A game that is copied whole and changed in place."""

    def __init__(self):
        self.money = [0, 0]
        self.turn = 0
        self.left = 0
        self.companies = []

    def price(self, k):
        return self.companies[k]["prices"][self.companies[k]["place"]]

    def worth(self, player):
        return self.money[player] + sum(self.price(k) * c["shares"][player] for k, c in enumerate(self.companies))

    def may(self, order):
        if self.left == 0 or not 0 <= order <= 4 * len(self.companies):
            return False
        if order == 0:
            return True
        k, deed = divmod(order - 1, 4)
        c = self.companies[k]
        own, others = c["shares"][self.turn], c["shares"][1 - self.turn]
        return [c["pool"] >= 1 and self.money[self.turn] >= self.price(k), own >= 1, own > others, own > others][deed]

    def orders(self):
        return [order for order in range(4 * len(self.companies) + 1) if self.may(order)]

    def give(self, order):
        if order:
            k, deed = divmod(order - 1, 4)
            c = self.companies[k]
            if deed == 0:
                self.money[self.turn] -= self.price(k)
                c["shares"][self.turn] += 1
                c["pool"] -= 1
            if deed == 1:
                self.money[self.turn] += self.price(k)
                c["shares"][self.turn] -= 1
                c["pool"] += 1
            if deed == 2:
                for player in (0, 1):
                    self.money[player] += c["pay"] * c["shares"][player]
                if c["place"] + 1 < len(c["prices"]):
                    c["place"] += 1
            elif deed in (1, 3) and c["place"] > 0:
                c["place"] -= 1
        self.turn = 1 - self.turn
        self.left -= 1

    def copied(self):
        game = Plain()
        game.money = list(self.money)
        game.turn = self.turn
        game.left = self.left
        for c in self.companies:
            game.companies.append({**c, "shares": list(c["shares"])})
        return game

    def behind(self, order):
        game = self.copied()
        game.give(order)
        return game

    def at_other_turn(self):
        game = self.copied()
        game.turn = 1 - game.turn
        return game

    def value(self, goal):
        if self.left == 0:
            return [self.worth(0), self.worth(1), self.worth(0) - self.worth(1)][goal]
        found = [self.behind(order).value(goal) for order in self.orders()]
        return max(found) if (self.turn == 1) == (goal == 1) else min(found)

    def best(self, goal):
        wanted = self.value(goal)
        return next(order for order in self.orders() if self.behind(order).value(goal) == wanted)

    def values(self, goal):
        return [number for order in self.orders() for number in (order, self.behind(order).value(goal))]

    def line(self, goal):
        if self.left == 0:
            return [], self
        order = self.best(goal)
        rest, end = self.behind(order).line(goal)
        return [order] + rest, end

    def duel(self, player, row):
        """The orders and the game at the end; the row may not fit."""
        if self.left == 0:
            return None if row else ([], self)
        if self.turn == player:
            order = self.best(player)
        elif not row or not self.may(row[0]):
            return None
        else:
            order, row = row[0], row[1:]
        behind = self.behind(order).duel(player, row)
        return behind and ([order] + behind[0], behind[1])

    def shown(self):
        found = self.money + [self.turn, self.left, len(self.companies)]
        for c in self.companies:
            found = found + [c["place"], c["pay"]] + c["shares"] + [c["pool"], len(c["prices"])] + c["prices"]
        return found


class PlainDesk:
    """A call is taken apart by its number, in the order of the promises."""

    def __init__(self):
        self.game = Plain()
        self.past = []

    def answer(self, call):
        number, rest = call[0], call[1:]
        names = (
            "company players show orders play undo worth value best values line duel swap scale clear tempo price"
        ).split()
        found = getattr(self, names[number])(*rest)
        if number in (0, 1, 12, 13, 14, 16) and found[0] >= 0:
            self.past = []
        return found

    def too_many(self):
        return (4 * len(self.game.companies) + 1) ** self.game.left > 100000

    def refusal(self, fits):
        return [-2] if not fits else [-7] if self.too_many() else None

    def company(self, place, pay, a, b, pool, count, *prices):
        if not 1 <= count <= 8 or min(prices) < 1 or max(prices) > 1000000 or sorted(set(prices)) != list(prices):
            return [-2]
        if place not in range(count) or pay not in range(1000001) or not {a, b, pool} <= set(range(10)):
            return [-2]
        if len(self.game.companies) == 3:
            return [-4]
        c = {"place": place, "pay": pay, "prices": list(prices), "shares": [a, b], "pool": pool}
        self.game = self.game.copied()
        self.game.companies.append(c)
        return [len(self.game.companies) - 1]

    def players(self, money0, money1, turn, left):
        if min(money0, money1) < 0 or max(money0, money1) > 1000000 or turn not in (0, 1) or left not in range(9):
            return [-2]
        self.game = self.game.copied()
        self.game.money, self.game.turn, self.game.left = [money0, money1], turn, left
        return [0]

    def show(self):
        return self.game.shown()

    def orders(self):
        return [len(self.game.orders())] + self.game.orders()

    def play(self, order):
        if self.game.left == 0:
            return [-5]
        if not self.game.may(order):
            return [-3]
        self.past.append(self.game)
        self.game = self.game.behind(order)
        return self.worth()

    def undo(self):
        if not self.past:
            return [-6]
        self.game = self.past.pop()
        return [0]

    def worth(self):
        return [self.game.worth(0), self.game.worth(1)]

    def value(self, goal):
        return self.refusal(goal in (0, 1, 2)) or [self.game.value(goal)]

    def best(self, goal):
        if goal in (0, 1, 2) and self.game.left == 0:
            return [-5]
        return self.refusal(goal in (0, 1, 2)) or [self.game.best(goal), self.game.value(goal)]

    def values(self, goal):
        return self.refusal(goal in (0, 1, 2)) or [len(self.game.orders())] + self.game.values(goal)

    def line(self, goal):
        return self.refusal(goal in (0, 1, 2)) or line_answer(*self.game.line(goal))

    def duel(self, player, count, *row):
        refusal = self.refusal(player in (0, 1))
        if refusal:
            return refusal
        found = self.game.duel(player, row)
        return line_answer(*found) if found else [-3]

    def swap(self):
        self.game = self.game.at_other_turn()
        self.game.money.reverse()
        for c in self.game.companies:
            c["shares"].reverse()
        return [0]

    def scale(self, k):
        amounts = list(self.game.money)
        for c in self.game.companies:
            amounts += [c["pay"]] + c["prices"]
        if not 1 <= k <= 1000000 or max(amounts) * k > 1000000:
            return [-2]
        self.game = self.game.copied()
        self.game.money = [k * money for money in self.game.money]
        for c in self.game.companies:
            c["pay"] *= k
            c["prices"] = [k * price for price in c["prices"]]
        return [0]

    def clear(self):
        self.game = Plain()
        return [0]

    def tempo(self, goal):
        return self.refusal(goal in (0, 1, 2)) or [self.game.at_other_turn().value(goal)]

    def price(self, number, place):
        if number not in range(len(self.game.companies)):
            return [-1]
        if place not in range(len(self.game.companies[number]["prices"])):
            return [-2]
        self.game = self.game.copied()
        self.game.companies[number]["place"] = place
        return [0]


def line_answer(orders, end):
    return [len(orders)] + orders + [end.worth(0), end.worth(1)]


def made_up_call(chance, desk):
    """Any of the 17 calls, for the most part one that is not refused."""
    number = chance.choice([0, 1, 1, 1, 2, 3, 4, 4, 4, 4, 4, 5, 6, 7, 8, 9, 10, 11, 11, 12, 13, 15, 16, 16])
    if chance.random() < 0.02:
        number = 14
    some = chance.choice([-1, 0, 0, 0, 1, 1, 1, 2, 2, 2, 3])
    if number == 0:
        prices = chance.sample(range(0, 60), chance.choice([0, 1, 2, 3, 4, 8, 9]))
        prices = sorted(prices) if chance.random() < 0.9 else prices
        held = [-1, 0, 1, 1, 2, 2, 3, 9, 10] if chance.random() < 0.2 else [0, 1, 2]
        shares = [chance.choice(held) for k in range(3)]
        return company(some if chance.random() < 0.3 else 0, chance.randint(-1, 12), *shares, prices)
    if number == 1:
        # More turns than these take long without anything remembered, but for those that are refused.
        left = chance.choice([0, 1, 2, 2, 8] if len(desk.game.companies) > 1 else [1, 2, 3, 8, 9])
        return players(chance.randint(-1, 90), chance.randint(-1, 90), chance.choice([0, 0, 1, 1, 2]), left)
    if number == 4:
        return play(chance.choice(desk.game.orders() + [chance.randint(-2, 13)]))
    if number in (7, 8, 9, 10, 15):
        return [number, some]
    if number == 11:
        turns = (desk.game.left + chance.choice([-1, 0, 1, 1, 2])) // 2
        row = [chance.choice([0, 0, 1, 2, 3, 5, 6]) for k in range(turns)]
        return duel(chance.choice([-1, 0, 0, 0, 1, 1, 1, 2]), row)
    if number == 13:
        return [13, chance.choice([0, 1, 1, 2, 2, 3, 1000])]
    if number == 16:
        return [16, some, chance.choice([-1, 0, 0, 1, 1, 2, 3, 8])]
    return [number]


def made_up(chance, most_companies, turns):
    """Calls that set up a game, and the same game in plain."""
    game = Plain()
    calls = []
    for k in range(chance.randint(1, most_companies)):
        prices = sorted(chance.sample(range(1, 60), chance.randint(1, 8)))
        c = {
            "place": chance.randrange(len(prices)), "pay": chance.randint(0, 12), "prices": prices,
            "shares": [chance.randint(0, 3), chance.randint(0, 3)], "pool": chance.randint(0, 2),
        }
        game.companies.append(c)
        calls.append(company(c["place"], c["pay"], c["shares"][0], c["shares"][1], c["pool"], prices))
    game.money = [chance.randint(0, 90), chance.randint(0, 90)]
    game.turn = chance.randint(0, 1)
    game.left = turns
    calls.append(players(game.money[0], game.money[1], game.turn, game.left))
    return calls, game


class SecondReckoningTest(unittest.TestCase):
    def test_orders_and_what_they_do(self):
        chance = random.Random(1)
        for number in range(300):
            calls, game = made_up(chance, 3, 8)
            past = []
            expected = []
            for step in range(14):
                order = chance.choice(game.orders() + [chance.randint(-2, 13)])
                if chance.random() < 0.25:
                    calls.append([5])
                    expected.append([0] if past else [-6])
                    game = past.pop() if past else game
                else:
                    calls.append(play(order))
                    if game.left == 0:
                        expected.append([-5])
                    elif not game.may(order):
                        expected.append([-3])
                    else:
                        past.append(game)
                        game = game.behind(order)
                        expected.append([game.worth(0), game.worth(1)])
                calls.extend([[2], [3], [6]])
                expected.append(game.shown())
                expected.append([len(game.orders())] + game.orders())
                expected.append([game.worth(0), game.worth(1)])
            self.assertEqual(told(*calls)[-len(expected):], expected)

    def check_values(self, seed, games, most_companies, turns):
        chance = random.Random(seed)
        for number in range(games):
            calls, game = made_up(chance, most_companies, turns)
            expected = []
            while game.left > 0:
                for goal in (0, 1, 2):
                    calls.extend([best(goal), value(goal)])
                    expected.extend([[game.best(goal), game.value(goal)], [game.value(goal)]])
                order = chance.choice(game.orders())
                calls.append(play(order))
                game = game.behind(order)
                expected.append([game.worth(0), game.worth(1)])
            self.assertEqual(told(*calls)[-len(expected):], expected)

    def test_values_of_one_company(self):
        self.check_values(2, 25, 1, 4)

    def test_values_of_up_to_three_companies(self):
        self.check_values(3, 60, 3, 2)
        self.check_values(4, 8, 3, 3)

    def test_all_17_calls_mixed(self):
        chance = random.Random(5)
        refused = set()
        answered = set()
        for count in [1, 2, 5, 399, 400] + [60] * 40:
            desk = PlainDesk()
            calls = []
            expected = []
            for step in range(count):
                calls.append(made_up_call(chance, desk))
                expected.append(desk.answer(calls[-1]))
                if len(expected[-1]) == 1 and expected[-1][0] < 0:
                    refused.add((calls[-1][0], expected[-1][0]))
                else:
                    answered.add(calls[-1][0])
            self.assertEqual(told(*calls), expected)
        # All that can be answered and refused came up.
        self.assertEqual(answered, set(range(17)))
        for call, numbers in REFUSALS.items():
            self.assertEqual({number for refused_call, number in refused if refused_call == call}, numbers)

    def test_the_greatest_games(self):
        for calls in greatest(0) + greatest(1):
            desk = PlainDesk()
            for call in calls:
                desk.answer(call)
            row = [0] * ((desk.game.left + 1) // 2)
            asked = [values(goal) for goal in GOALS] + [line(2), tempo(0), duel(0, row), duel(1, row)]
            self.assertEqual(told(*calls, *asked)[len(calls):], [desk.answer(call) for call in asked])
