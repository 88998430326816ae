"""The same calls reckoned a second time, word by word and with nothing remembered, on made-up games."""

import copy
import random
import unittest

from tests.helper import best, company, play, players, told, value


class Plain:
    """A game that is copied whole and changed in place."""

    def __init__(self):
        self.money = [0, 0]
        self.turn = 0
        self.left = 0
        self.companies = []

    def price(self, k):
        return self.companies[k]["prices"][self.companies[k]["place"]]

    def worth(self, player):
        return self.money[player] + sum(self.price(k) * c["shares"][player] for k, c in enumerate(self.companies))

    def may(self, order):
        if self.left == 0 or not 0 <= order <= 4 * len(self.companies):
            return False
        if order == 0:
            return True
        k, deed = divmod(order - 1, 4)
        c = self.companies[k]
        own, others = c["shares"][self.turn], c["shares"][1 - self.turn]
        return [c["pool"] >= 1 and self.money[self.turn] >= self.price(k), own >= 1, own > others, own > others][deed]

    def orders(self):
        return [order for order in range(4 * len(self.companies) + 1) if self.may(order)]

    def give(self, order):
        if order:
            k, deed = divmod(order - 1, 4)
            c = self.companies[k]
            if deed == 0:
                self.money[self.turn] -= self.price(k)
                c["shares"][self.turn] += 1
                c["pool"] -= 1
            if deed == 1:
                self.money[self.turn] += self.price(k)
                c["shares"][self.turn] -= 1
                c["pool"] += 1
            if deed == 2:
                for player in (0, 1):
                    self.money[player] += c["pay"] * c["shares"][player]
                if c["place"] + 1 < len(c["prices"]):
                    c["place"] += 1
            elif deed in (1, 3) and c["place"] > 0:
                c["place"] -= 1
        self.turn = 1 - self.turn
        self.left -= 1

    def behind(self, order):
        game = copy.deepcopy(self)
        game.give(order)
        return game

    def value(self, goal):
        if self.left == 0:
            return [self.worth(0), self.worth(1), self.worth(0) - self.worth(1)][goal]
        found = [self.behind(order).value(goal) for order in self.orders()]
        return max(found) if (self.turn == 1) == (goal == 1) else min(found)

    def best(self, goal):
        wanted = self.value(goal)
        return next(order for order in self.orders() if self.behind(order).value(goal) == wanted)

    def shown(self):
        found = self.money + [self.turn, self.left, len(self.companies)]
        for c in self.companies:
            found = found + [c["place"], c["pay"]] + c["shares"] + [c["pool"], len(c["prices"])] + c["prices"]
        return found


def made_up(chance, most_companies, turns):
    """Calls that set up a game, and the same game in plain."""
    game = Plain()
    calls = []
    for k in range(chance.randint(1, most_companies)):
        prices = sorted(chance.sample(range(1, 60), chance.randint(1, 8)))
        c = {
            "place": chance.randrange(len(prices)), "pay": chance.randint(0, 12), "prices": prices,
            "shares": [chance.randint(0, 3), chance.randint(0, 3)], "pool": chance.randint(0, 2),
        }
        game.companies.append(c)
        calls.append(company(c["place"], c["pay"], c["shares"][0], c["shares"][1], c["pool"], prices))
    game.money = [chance.randint(0, 90), chance.randint(0, 90)]
    game.turn = chance.randint(0, 1)
    game.left = turns
    calls.append(players(game.money[0], game.money[1], game.turn, game.left))
    return calls, game


class SecondReckoningTest(unittest.TestCase):
    def test_orders_and_what_they_do(self):
        chance = random.Random(1)
        for number in range(300):
            calls, game = made_up(chance, 3, 8)
            past = []
            expected = []
            for step in range(14):
                order = chance.choice(game.orders() + [chance.randint(-2, 13)])
                if chance.random() < 0.25:
                    calls.append([5])
                    expected.append([0] if past else [-6])
                    game = past.pop() if past else game
                else:
                    calls.append(play(order))
                    if game.left == 0:
                        expected.append([-5])
                    elif not game.may(order):
                        expected.append([-3])
                    else:
                        past.append(game)
                        game = game.behind(order)
                        expected.append([game.worth(0), game.worth(1)])
                calls.extend([[2], [3], [6]])
                expected.append(game.shown())
                expected.append([len(game.orders())] + game.orders())
                expected.append([game.worth(0), game.worth(1)])
            self.assertEqual(told(*calls)[-len(expected):], expected)

    def check_values(self, seed, games, most_companies, turns):
        chance = random.Random(seed)
        for number in range(games):
            calls, game = made_up(chance, most_companies, turns)
            expected = []
            while game.left > 0:
                for goal in (0, 1, 2):
                    calls.extend([best(goal), value(goal)])
                    expected.extend([[game.best(goal), game.value(goal)], [game.value(goal)]])
                order = chance.choice(game.orders())
                calls.append(play(order))
                game = game.behind(order)
                expected.append([game.worth(0), game.worth(1)])
            self.assertEqual(told(*calls)[-len(expected):], expected)

    def test_values_of_one_company(self):
        self.check_values(2, 25, 1, 4)

    def test_values_of_up_to_three_companies(self):
        self.check_values(3, 60, 3, 2)
        self.check_values(4, 8, 3, 3)
