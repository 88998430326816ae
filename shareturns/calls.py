"""What each call does and answers.

Every call is handed the desk, its whole numbers and its row, and answers a
list. A refusal is answered before anything on the desk is changed.
"""

from shareturns.changes import scaled, swapped, with_other_turn, with_place
from shareturns.game import Company, Game, first_game, worth_of
from shareturns.lines import best_line, duel_line, game_at_end
from shareturns.rules import game_behind, orders_of
from shareturns.search import GOALS, Search, too_many_positions

NO_COMPANY = -1
WRONG_NUMBER = -2
NOT_ALLOWED = -3
NO_ROOM = -4
NO_TURNS = -5
NOTHING_PLAYED = -6
TOO_MANY_POSITIONS = -7

MOST_COMPANIES = 3
MOST_PRICES = 8
MOST_SHARES = 9
MOST_TURNS = 8
MOST_MONEY = 1000000
MOST_TIMES = 1000000

PLAYERS = (0, 1)


# The game as it stands, and the games before each order that can be taken back.
class Desk:
    def __init__(self):
        self.begin_with(first_game())

    def begin_with(self, game):
        self.game = game
        self.past = []
        # Orders leave prices and pays as they are, so what is known of values holds until here.
        self.searches = [Search(goal) for goal in GOALS]


def company_fits(company):
    held = (company.shares[0], company.shares[1], company.pool)
    return (
        prices_fit(company.prices)
        and 0 <= company.place < len(company.prices)
        and 0 <= company.pay <= MOST_MONEY
        and all([0 <= shares <= MOST_SHARES for shares in held])
    )


def prices_fit(prices):
    return (
        1 <= len(prices) <= MOST_PRICES
        and all([1 <= price <= MOST_MONEY for price in prices])
        and all([low < high for low, high in zip(prices, prices[1:])])
    )


def players_fit(game):
    return (
        all([0 <= money <= MOST_MONEY for money in game.money])
        and game.turn in PLAYERS
        and 0 <= game.left <= MOST_TURNS
    )


# Money is asked of by itself too: play alone may have brought it above the most.
def money_fits(game):
    return (
        all([money <= MOST_MONEY for money in game.money])
        and all([company.pay <= MOST_MONEY for company in game.companies])
        and all([max(company.prices) <= MOST_MONEY for company in game.companies])
    )


# The refusal of a call that looks into values, empty if it is not refused.
def search_refusal(number_fits, game):
    if not number_fits:
        return [WRONG_NUMBER]
    if too_many_positions(game):
        return [TOO_MANY_POSITIONS]
    return []


def both_worths(game):
    return [worth_of(game, player) for player in PLAYERS]


# How many orders are given, these, and both worths behind them.
def line_told(game, given):
    return [len(given)] + given + both_worths(game_at_end(game, given))


def add_company(desk, numbers, row):
    company = Company(numbers[0], numbers[1], (numbers[2], numbers[3]), numbers[4], tuple(row))
    game = desk.game
    if not company_fits(company):
        return [WRONG_NUMBER]
    if len(game.companies) == MOST_COMPANIES:
        return [NO_ROOM]
    desk.begin_with(Game(game.money, game.turn, game.left, game.companies + (company,)))
    return [len(game.companies)]


def set_players(desk, numbers, row):
    game = Game((numbers[0], numbers[1]), numbers[2], numbers[3], desk.game.companies)
    if not players_fit(game):
        return [WRONG_NUMBER]
    desk.begin_with(game)
    return [0]


def show(desk, numbers, row):
    game = desk.game
    shown = [game.money[0], game.money[1], game.turn, game.left, len(game.companies)]
    for company in game.companies:
        shown.extend([company.place, company.pay, company.shares[0], company.shares[1], company.pool])
        shown.append(len(company.prices))
        shown.extend(company.prices)
    return shown


def list_orders(desk, numbers, row):
    found = orders_of(desk.game)
    return [len(found)] + found


def play(desk, numbers, row):
    order = numbers[0]
    if desk.game.left == 0:
        return [NO_TURNS]
    if order not in orders_of(desk.game):
        return [NOT_ALLOWED]
    desk.past.append(desk.game)
    desk.game = game_behind(desk.game, order)
    return both_worths(desk.game)


def undo(desk, numbers, row):
    if len(desk.past) == 0:
        return [NOTHING_PLAYED]
    desk.game = desk.past.pop()
    return [0]


def tell_worths(desk, numbers, row):
    return both_worths(desk.game)


def tell_value(desk, numbers, row):
    goal = numbers[0]
    refusal = search_refusal(goal in GOALS, desk.game)
    if len(refusal) > 0:
        return refusal
    return [desk.searches[goal].value(desk.game)]


def tell_best(desk, numbers, row):
    goal = numbers[0]
    if goal not in GOALS:
        return [WRONG_NUMBER]
    if desk.game.left == 0:
        return [NO_TURNS]
    if too_many_positions(desk.game):
        return [TOO_MANY_POSITIONS]
    search = desk.searches[goal]
    return [search.best_order(desk.game), search.value(desk.game)]


def tell_values(desk, numbers, row):
    goal = numbers[0]
    refusal = search_refusal(goal in GOALS, desk.game)
    if len(refusal) > 0:
        return refusal
    given = orders_of(desk.game)
    found = [len(given)]
    for order in given:
        found.extend([order, desk.searches[goal].value(game_behind(desk.game, order))])
    return found


def tell_line(desk, numbers, row):
    goal = numbers[0]
    refusal = search_refusal(goal in GOALS, desk.game)
    if len(refusal) > 0:
        return refusal
    return line_told(desk.game, best_line(desk.searches[goal], desk.game))


def tell_duel(desk, numbers, row):
    player = numbers[0]
    refusal = search_refusal(player in PLAYERS, desk.game)
    if len(refusal) > 0:
        return refusal
    # The goal that is a player's own worth has that player's number.
    given = duel_line(desk.searches[player], desk.game, player, row)
    if given is None:
        return [NOT_ALLOWED]
    return line_told(desk.game, given)


def swap_players(desk, numbers, row):
    desk.begin_with(swapped(desk.game))
    return [0]


def scale_money(desk, numbers, row):
    times = numbers[0]
    if not 1 <= times <= MOST_TIMES:
        return [WRONG_NUMBER]
    game = scaled(desk.game, times)
    if not money_fits(game):
        return [WRONG_NUMBER]
    desk.begin_with(game)
    return [0]


def clear_all(desk, numbers, row):
    desk.begin_with(first_game())
    return [0]


def tell_tempo(desk, numbers, row):
    goal = numbers[0]
    refusal = search_refusal(goal in GOALS, desk.game)
    if len(refusal) > 0:
        return refusal
    return [desk.searches[goal].value(with_other_turn(desk.game))]


def set_place(desk, numbers, row):
    number = numbers[0]
    place = numbers[1]
    companies = desk.game.companies
    if not 0 <= number < len(companies):
        return [NO_COMPANY]
    if not 0 <= place < len(companies[number].prices):
        return [WRONG_NUMBER]
    desk.begin_with(with_place(desk.game, number, place))
    return [0]


# By the calls' numbers: what is done, how many whole numbers are handed in, and how many rows behind them.
DEED_OF = (
    add_company, set_players, show, list_orders, play, undo, tell_worths, tell_value, tell_best,
    tell_values, tell_line, tell_duel, swap_players, scale_money, clear_all, tell_tempo, set_place,
)
NUMBERS_OF = (5, 4, 0, 0, 1, 0, 0, 1, 1, 1, 1, 1, 0, 1, 0, 1, 2)
ROWS_OF = (1, 0, 0, 0, 0, 0, 0, 0, 0, 0, 0, 1, 0, 0, 0, 0, 0)
