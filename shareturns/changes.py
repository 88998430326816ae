"""The games that come of another game by something else than an order."""

from shareturns.game import Company, Game, at_place, with_company


def swapped(game):
    companies = [with_shares(company, turned_round(company.shares)) for company in game.companies]
    return Game(turned_round(game.money), 1 - game.turn, game.left, tuple(companies))


def turned_round(pair):
    return (pair[1], pair[0])


def with_shares(company, shares):
    return Company(company.place, company.pay, shares, company.pool, company.prices)


def scaled(game, times):
    companies = [scaled_company(company, times) for company in game.companies]
    return Game(all_times(game.money, times), game.turn, game.left, tuple(companies))


def scaled_company(company, times):
    prices = all_times(company.prices, times)
    return Company(company.place, company.pay * times, company.shares, company.pool, prices)


def all_times(numbers, times):
    return tuple([number * times for number in numbers])


def with_other_turn(game):
    return Game(game.money, 1 - game.turn, game.left, game.companies)


def with_place(game, number, place):
    company = at_place(game.companies[number], place)
    return Game(game.money, game.turn, game.left, with_company(game.companies, number, company))
