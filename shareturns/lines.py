"""Orders that are given one behind another until no turns are left."""

from shareturns.rules import game_behind, orders_of


# The orders that are given if both players give the best one at each turn.
def best_line(search, game):
    given = []
    while game.left > 0:
        order = search.best_order(game)
        given.append(order)
        game = game_behind(game, order)
    return given


# The orders that are given if the player gives the best ones and the other those of the row;
# None if the row does not fit the other player's turns.
def duel_line(search, game, player, row):
    given = []
    taken = 0
    while game.left > 0:
        if game.turn == player:
            order = search.best_order(game)
        elif taken < len(row) and row[taken] in orders_of(game):
            order = row[taken]
            taken += 1
        else:
            return None
        given.append(order)
        game = game_behind(game, order)
    if taken < len(row):
        return None
    return given


def game_at_end(game, given):
    for order in given:
        game = game_behind(game, order)
    return game
