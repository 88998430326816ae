"""Lists of calls written by name, and their answers taken apart."""

from shareturns.desk import answers

SHOW = [2]
ORDERS = [3]
UNDO = [5]
WORTH = [6]
SWAP = [12]
CLEAR = [14]


def company(place, pay, a, b, pool, prices):
    return [0, place, pay, a, b, pool, len(prices)] + list(prices)


def players(money0, money1, turn, left):
    return [1, money0, money1, turn, left]


def play(order):
    return [4, order]


def value(goal):
    return [7, goal]


def best(goal):
    return [8, goal]


def values(goal):
    return [9, goal]


def line(goal):
    return [10, goal]


def duel(player, orders):
    return [11, player, len(orders)] + list(orders)


def scale(k):
    return [13, k]


def tempo(goal):
    return [15, goal]


def price(number, place):
    return [16, number, place]


def told(*calls):
    """The answers to these calls, a list for each."""
    numbers = answers([number for call in calls for number in call])
    found = []
    at = 0
    while at < len(numbers):
        count = numbers[at]
        found.append(numbers[at + 1:at + 1 + count])
        at += 1 + count
    assert at == len(numbers) and len(found) == len(calls), numbers
    return found


def last(*calls):
    """The answer to the last of these calls."""
    return told(*calls)[-1]


# One company that player 0 presides over, worths 70 and 40: used wherever a game is reckoned by hand.
COMPANY = company(1, 5, 2, 1, 1, [10, 20, 40])
COMPANY_SHOWN = [1, 5, 2, 1, 1, 3, 10, 20, 40]


def game(turn, left):
    return [COMPANY, players(30, 20, turn, left)]


GOALS = (0, 1, 2)
WRONG_GOALS = (-1, 3, 4, -2147483648, 2147483647)

# Player 0 presides over the first, so that every order may be given in turn.
FULL = [company(1, 5, 3, 1, 2, [10, 20, 40]), company(0, 3, 1, 2, 3, [5, 6]), company(1, 0, 2, 2, 1, [7, 9])]
# Of so many companies the most turns that are not too many positions; without a company there are never too many.
MOST_TURNS = {1: 7, 2: 5, 3: 4}


def greatest(turn):
    """The greatest games that are not too many positions."""
    found = [FULL[:count] + [players(60, 50, turn, turns)] for count, turns in MOST_TURNS.items()]
    return found + [[players(60, 50, turn, 8)]]


def too_great(turn):
    """Those with a turn more than the greatest."""
    return [FULL[:count] + [players(60, 50, turn, turns + 1)] for count, turns in MOST_TURNS.items()]


# A game with an order played, and what must be as before behind a call that changes nothing.
PLAYED = [COMPANY, players(30, 20, 1, 3), play(1)]
STATE = [SHOW, WORTH, UNDO, SHOW, UNDO]
