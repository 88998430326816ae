"""A company and a game, as they stand.

Neither is changed once it is made: an order makes a new game, so that a game
can be kept to be taken back to, and companies can be shared between games.
"""


class Company:
    def __init__(self, place, pay, shares, pool, prices):
        self.place = place
        self.pay = pay
        self.shares = shares
        self.pool = pool
        self.prices = prices


class Game:
    def __init__(self, money, turn, left, companies):
        self.money = money
        self.turn = turn
        self.left = left
        self.companies = companies


# The game at the beginning, before anything is told.
def first_game():
    return Game((0, 0), 0, 0, ())


def at_place(company, place):
    return Company(place, company.pay, company.shares, company.pool, company.prices)


# The same companies, but for this one in the place of the one with its number.
def with_company(companies, number, company):
    return companies[:number] + (company,) + companies[number + 1:]


def price_of(company):
    return company.prices[company.place]


def worth_of(game, player):
    worth = game.money[player]
    for company in game.companies:
        worth += price_of(company) * company.shares[player]
    return worth
