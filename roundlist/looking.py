"""Looking at rounds: what are good ones, a club's row and breaks, who meets whom."""
from roundlist.errors import BadClub, BadClubs, BadRounds

# Kinds are compared exactly throughout, so that True and False are no whole numbers and
# nothing that only poses as a number, a list or a tuple is asked anything that it could fail at.
# For the same reason no message repeats what was handed in: it may have no text.

FEWEST_CLUBS = 2
MOST_CLUBS = 20
MOST_ROUNDS = 40


def need_clubs(thing):
    """Refuse what is not a good number of clubs."""
    if type(thing) is not int or not FEWEST_CLUBS <= thing <= MOST_CLUBS:
        raise BadClubs(f"the clubs are not told by a whole number from {FEWEST_CLUBS} to {MOST_CLUBS}")


def need_rounds(clubs, thing):
    """Refuse what are not rounds of so many clubs."""
    need_clubs(clubs)
    if type(thing) is not list or len(thing) > MOST_ROUNDS:
        raise BadRounds(f"the rounds are not a list of at most {MOST_ROUNDS}")
    played = set()
    for games in thing:
        need_games(clubs, games)
        for game in games:
            if game in played:
                raise BadRounds("a game stands twice in the rounds")
            played.add(game)


def need_games(clubs, thing):
    """Refuse what are not the games of one round, looked at for itself."""
    if type(thing) is not list:
        raise BadRounds("a round is not a list")
    busy = set()
    for game in thing:
        if not is_game(clubs, game):
            raise BadRounds("a game is not a tuple of two unlike clubs")
        home, away = game
        if home in busy or away in busy:
            raise BadRounds("a club stands twice in one round")
        busy.add(home)
        busy.add(away)


def is_game(clubs, thing):
    """Tell whether this is a tuple of two unlike clubs."""
    if type(thing) is not tuple or len(thing) != 2:
        return False
    home, away = thing
    return is_club(clubs, home) and is_club(clubs, away) and home != away


def is_club(clubs, thing):
    """Tell whether this is the number of one of so many clubs."""
    return type(thing) is int and 0 <= thing < clubs


def need_club(clubs, thing):
    """Refuse what is not a club."""
    if not is_club(clubs, thing):
        raise BadClub("there is no such club")


def need_two_clubs(clubs, one, other):
    """Refuse what are not two unlike clubs."""
    need_club(clubs, one)
    need_club(clubs, other)
    if one == other:
        raise BadClub("both are the same club")


def club_row(clubs, rounds, club):
    """Tell for each round 1 where the club is at home, 0 where away, None where it rests."""
    need_rounds(clubs, rounds)
    need_club(clubs, club)
    return [place_in(games, club) for games in rounds]


def place_in(games, club):
    """Tell a club's place in the games of one round, as its row has it."""
    for home, away in games:
        if club == home:
            return 1
        if club == away:
            return 0
    return None


def breaks(clubs, rounds, club):
    """Tell the numbers of the rounds in which the club has a break."""
    found = []
    last = None
    for number, place in enumerate(club_row(clubs, rounds, club)):
        if place is None:
            # A rest ends nothing: the last game ahead of it is still the one to compare with.
            continue
        if place == last:
            found.append(number)
        last = place
    return found


def meetings(clubs, rounds, one, other):
    """Tell the round and the home club of each game of these two."""
    need_rounds(clubs, rounds)
    need_two_clubs(clubs, one, other)
    either_way = ((one, other), (other, one))
    found = []
    for number, games in enumerate(rounds):
        found.extend([(number, game[0]) for game in games if game in either_way])
    return found


def meet_once(clubs, rounds):
    """Tell whether each two clubs meet just once."""
    need_rounds(clubs, rounds)
    met = sorted([(min(game), max(game)) for games in rounds for game in games])
    return met == [(low, high) for low in range(clubs) for high in range(low + 1, clubs)]


def meet_twice(clubs, rounds):
    """Tell whether each two clubs meet just once at each one's home."""
    need_rounds(clubs, rounds)
    met = sorted([game for games in rounds for game in games])
    return met == [(home, away) for home in range(clubs) for away in range(clubs) if home != away]
