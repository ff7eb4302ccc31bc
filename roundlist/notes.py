"""Writing rounds as a text, and reading them from one."""
from roundlist.errors import BadRounds, BadText
from roundlist.looking import need_clubs, need_rounds

NO_GAMES = "."


def rounds_text(clubs, rounds):
    """Write rounds as a text, a line for each round."""
    need_rounds(clubs, rounds)
    return "\n".join([games_line(games) for games in rounds])


def games_line(games):
    """Write the games of one round as a line."""
    if not games:
        return NO_GAMES
    return " ".join([f"{home}-{away}" for home, away in sorted(games)])


def rounds_of(clubs, text):
    """Read rounds from a text."""
    need_clubs(clubs)
    if type(text) is not str:
        raise BadText("what shall be read is not a text")
    # The empty text has no line, but would be split into an empty one.
    lines = text.split("\n") if text else []
    # Each number can be written in one way only, so a look at all of them refuses noughts
    # ahead, signs and numbers that are too long to be read as well as clubs that aren't there.
    numbers = {str(club): club for club in range(clubs)}
    rounds = [line_games(numbers, line) for line in lines]
    try:
        need_rounds(clubs, rounds)
    except BadRounds:
        raise BadText("the text does not tell rounds of so many clubs") from None
    return rounds


def line_games(numbers, line):
    """Read the games of one round from a line."""
    if line == NO_GAMES:
        return []
    return sorted([word_game(numbers, word) for word in line.split(" ")])


def word_game(numbers, word):
    """Read a game from a word."""
    # Without a `-` there is nothing behind it, which is no number either.
    home, _, away = word.partition("-")
    if home not in numbers or away not in numbers:
        raise BadText("a game is not told by two of the clubs and a - between them")
    return (numbers[home], numbers[away])
