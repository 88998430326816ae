"""A company and a game, as they stand.

Neither is changed once it is made: an order makes a new game, so that a game
can be kept to be taken back to, and companies can be shared between games.
"""


class Company:
    def __init__(self, place, pay, shares, pool, prices):
        self.place = place
        self.pay = pay
        self.shares = shares
        self.pool = pool
        self.prices = prices


class Game:
    def __init__(self, money, turn, left, companies):
        self.money = money
        self.turn = turn
        self.left = left
        self.companies = companies


def price_of(company):
    return company.prices[company.place]


def worth_of(game, player):
    worth = game.money[player]
    for company in game.companies:
        worth += price_of(company) * company.shares[player]
    return worth
