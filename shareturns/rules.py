"""Which orders may be given, and the game behind each of them."""

from shareturns.game import Company, Game, at_place, price_of, with_company

PASS = 0

# What an order does to its company k: the order's number less 4 k.
BUY = 1
SELL = 2
PAY_OUT = 3
KEEP = 4
DEEDS = 4


# The orders that may be given now, rising.
def orders_of(game):
    if game.left == 0:
        return []
    found = [PASS]
    money = game.money[game.turn]
    for number, company in enumerate(game.companies):
        for deed in deeds_of(company, game.turn, money):
            found.append(DEEDS * number + deed)
    return found


def deeds_of(company, player, money):
    found = []
    own = company.shares[player]
    if company.pool > 0 and price_of(company) <= money:
        found.append(BUY)
    if own > 0:
        found.append(SELL)
    if own > company.shares[1 - player]:
        found.append(PAY_OUT)
        found.append(KEEP)
    return found


# The game behind an order that may be given.
def game_behind(game, order):
    money = game.money
    companies = game.companies
    if order != PASS:
        number = (order - 1) // DEEDS
        deed = order - DEEDS * number
        company = companies[number]
        money = money_behind(money, company, game.turn, deed)
        companies = with_company(companies, number, company_behind(company, game.turn, deed))
    return Game(money, 1 - game.turn, game.left - 1, companies)


def money_behind(money, company, player, deed):
    if deed == BUY:
        return with_more(money, player, -price_of(company))
    if deed == SELL:
        return with_more(money, player, price_of(company))
    if deed == PAY_OUT:
        return (money[0] + company.pay * company.shares[0], money[1] + company.pay * company.shares[1])
    return money


def company_behind(company, player, deed):
    if deed == BUY:
        return traded(company, player, 1)
    if deed == SELL:
        return moved(traded(company, player, -1), -1)
    if deed == PAY_OUT:
        return moved(company, 1)
    return moved(company, -1)


def with_more(pair, player, more):
    if player == 0:
        return (pair[0] + more, pair[1])
    return (pair[0], pair[1] + more)


def traded(company, player, bought):
    shares = with_more(company.shares, player, bought)
    return Company(company.place, company.pay, shares, company.pool - bought, company.prices)


def moved(company, step):
    return at_place(company, min(max(company.place + step, 0), len(company.prices) - 1))
