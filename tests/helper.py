"""Lists of calls written by name, and their answers taken apart."""

from shareturns.desk import answers

SHOW = [2]
ORDERS = [3]
UNDO = [5]
WORTH = [6]


def company(place, pay, a, b, pool, prices):
    return [0, place, pay, a, b, pool, len(prices)] + list(prices)


def players(money0, money1, turn, left):
    return [1, money0, money1, turn, left]


def play(order):
    return [4, order]


def value(goal):
    return [7, goal]


def best(goal):
    return [8, goal]


def told(*calls):
    """The answers to these calls, a list for each."""
    numbers = answers([number for call in calls for number in call])
    found = []
    at = 0
    while at < len(numbers):
        count = numbers[at]
        found.append(numbers[at + 1:at + 1 + count])
        at += 1 + count
    assert at == len(numbers) and len(found) == len(calls), numbers
    return found


def last(*calls):
    """The answer to the last of these calls."""
    return told(*calls)[-1]


# One company that player 0 presides over, worths 70 and 40: used wherever a game is reckoned by hand.
COMPANY = company(1, 5, 2, 1, 1, [10, 20, 40])
COMPANY_SHOWN = [1, 5, 2, 1, 1, 3, 10, 20, 40]


def game(turn, left):
    return [COMPANY, players(30, 20, turn, left)]
