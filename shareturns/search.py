"""The value of a game for a goal, and the best order."""

from shareturns.game import worth_of
from shareturns.rules import DEEDS, game_behind, orders_of

GOALS = (0, 1, 2)
MOST_POSITIONS = 100000


def too_many_positions(game):
    positions = 1
    for turn in range(game.left):
        positions *= DEEDS * len(game.companies) + 1
    return positions > MOST_POSITIONS


# What the goal comes to when the game ends as it stands.
def reached(game, goal):
    if goal == 2:
        return worth_of(game, 0) - worth_of(game, 1)
    return worth_of(game, goal)


def plays_for_most(player, goal):
    if goal == 1:
        return player == 1
    return player == 0


def key_of(game):
    stands = [(company.place, company.shares, company.pool) for company in game.companies]
    return (game.money, game.turn, game.left, tuple(stands))


# Values for one goal, of games whose companies have the same prices and pays.
class Search:
    def __init__(self, goal):
        self.goal = goal
        # Many rows of orders lead to the same game: each is looked into once.
        self.known = {}

    def value(self, game):
        if game.left == 0:
            return reached(game, self.goal)
        key = key_of(game)
        if key not in self.known:
            self.known[key] = self.chosen_value(game)
        return self.known[key]

    def chosen_value(self, game):
        found = [self.value(game_behind(game, order)) for order in orders_of(game)]
        if plays_for_most(game.turn, self.goal):
            return max(found)
        return min(found)

    # The first order behind which the value stays; turns must be left.
    def best_order(self, game):
        wanted = self.value(game)
        fitting = [order for order in orders_of(game) if self.value(game_behind(game, order)) == wanted]
        return fitting[0]
