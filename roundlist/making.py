"""Making lists of rounds in which all meet, with as few breaks as can be."""
from roundlist.looking import need_clubs


def once_round(clubs):
    """Make a list in which each two clubs meet just once."""
    need_clubs(clubs)
    last = clubs - 1
    if is_even(clubs):
        return [sorted([*ring_games(last, turn), last_club_game(last, turn)]) for turn in range(last)]
    return [sorted(ring_games(clubs, turn)) for turn in range(clubs)]


def is_even(number):
    """Tell whether a number is even."""
    return number % 2 == 0


def ring_games(ring, turn):
    """Pair the clubs of a ring, an odd number of them, all but the one whose turn it is.

    From round to round a club comes one step nearer to its turn and, behind it, goes one
    step farther off. So homes that change from step to step, and are the other way round on
    the other side, let each club change between home and away all the time, also across its
    own turn and at the far end of the ring.
    """
    games = []
    for step in range(1, ring // 2 + 1):
        ahead = (turn + step) % ring
        behind = (turn - step) % ring
        games.append((behind, ahead) if is_even(step) else (ahead, behind))
    return games


def last_club_game(last, turn):
    """Pair the club that is not in the ring with the one whose turn it is.

    The last club changes between home and away, so it has no break. Each club of the ring is
    at home right ahead of its turn and away right behind it, so this game costs it one break,
    but not the club of the first round, which is at home here with nothing ahead.
    """
    return (turn, last) if is_even(turn) else (last, turn)


def twice_round(clubs):
    """Make a list once round and behind it the same rounds with all homes exchanged."""
    first = once_round(clubs)
    return first + [homes_exchanged(games) for games in first]


def homes_exchanged(games):
    """Play the games of one round at each other club's home."""
    return sorted([(away, home) for home, away in games])


def least_breaks(clubs):
    """Tell how many breaks all clubs together have at least in a list once round."""
    need_clubs(clubs)
    return clubs - 2 if is_even(clubs) else 0
