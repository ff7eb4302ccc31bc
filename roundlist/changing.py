"""Putting rounds otherwise: in another order, games turned, clubs exchanged, without a club."""
from roundlist.errors import BadOrder
from roundlist.looking import need_club, need_rounds, need_two_clubs

# Each function sorts the games of each round anew: they may come in any order, and the lists
# that are told must be others than those that were handed in.


def moved(clubs, rounds, order):
    """Tell the rounds in another order, the numbers of the rounds as they shall come."""
    need_rounds(clubs, rounds)
    need_order(len(rounds), order)
    return [sorted(rounds[number]) for number in order]


def need_order(many, thing):
    """Refuse what is not a list of the numbers of so many rounds, each once."""
    if type(thing) is not list or len(thing) != many:
        raise BadOrder("the order is not a list of as many numbers as there are rounds")
    # Kinds first: True would pass for 1, and not all things can be sorted.
    if not all(type(number) is int for number in thing):
        raise BadOrder("the order has something that is not a whole number")
    if sorted(thing) != list(range(many)):
        raise BadOrder("the order does not name each round once")


def turned(clubs, rounds, one, other):
    """Tell the rounds with all games of two clubs at the other one's home."""
    need_rounds(clubs, rounds)
    need_two_clubs(clubs, one, other)
    return [sorted([turned_game(game, one, other) for game in games]) for games in rounds]


def turned_game(game, one, other):
    """Turn a game if it is one of these two clubs."""
    home, away = game
    return (away, home) if one in game and other in game else game


def exchanged(clubs, rounds, one, other):
    """Tell the rounds with two clubs in each other's place."""
    need_rounds(clubs, rounds)
    need_two_clubs(clubs, one, other)
    places = list(range(clubs))
    places[one] = other
    places[other] = one
    return [sorted([(places[home], places[away]) for home, away in games]) for games in rounds]


def without(clubs, rounds, club):
    """Tell the rounds without the games of a club; no other club gets its number."""
    need_rounds(clubs, rounds)
    need_club(clubs, club)
    return [sorted([game for game in games if club not in game]) for games in rounds]
