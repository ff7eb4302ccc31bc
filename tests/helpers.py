"""What several tests use: odd things to hand in, the functions under test, plain counting."""
import copy

from roundlist.changing import exchanged, moved, turned, without
from roundlist.looking import breaks, club_row, meet_once, meet_twice, meetings, need_clubs, need_rounds
from roundlist.making import least_breaks, once_round, twice_round
from roundlist.notes import rounds_of, rounds_text
from roundlist.season import Season

COUNTS = range(2, 21)
HUGE = 10 ** 5000

# Four clubs once round, written by hand; club 0 has a break in round 1, club 3 in round 2.
FOUR = [[(0, 3), (1, 2)], [(0, 2), (3, 1)], [(1, 0), (3, 2)]]


class Hostile:
    """A thing that answers no question: whoever asks it anything but its kind, fails."""

    def fail(self, *told):
        raise RuntimeError("it was asked")

    __eq__ = __ne__ = __lt__ = __le__ = __gt__ = __ge__ = fail
    __hash__ = __bool__ = __len__ = __iter__ = __contains__ = __getitem__ = fail
    __int__ = __index__ = __str__ = __repr__ = __format__ = fail


def odd_things():
    """Things of many kinds that are no whole numbers, no lists and no tuples of two."""
    return [
        True, False, None, "", "2", "(0, 1)", b"\x00\x01", set(), {0, 1}, frozenset([0, 1]), {}, {0: 1},
        (), (0,), (0, 1, 2), range(2), object(), len, int, iter([]), (club for club in (0, 1)), Hostile(),
    ]


def not_clubs():
    """What is no number of clubs."""
    return [1, 0, 21, -1, -2, 22, HUGE, -HUGE, [], [2], [[]], (2, 3), *odd_things()]


def not_an_order(many):
    """What is no order of so many rounds, three or more."""
    numbers = list(range(many))
    bad = [many, many + 1, -1, -many, HUGE, -HUGE, 10 ** 20, [], [0], (0,), *odd_things()]
    return [
        numbers[1:], numbers[:-1], numbers[:1], [], [*numbers, many], [*numbers, 0], numbers * 2,
        [1, *numbers[1:]], [*numbers[:-1], 0], [0] * many, [-number for number in numbers],
        [number + 1 for number in numbers], [number - 1 for number in numbers],
        [0, True, *numbers[2:]], [False, *numbers[1:]], [numbers],
        *[[*numbers[:at], thing, *numbers[at + 1:]] for at in (0, 1, many - 1) for thing in bad],
        tuple(numbers), range(many), dict.fromkeys(numbers), set(numbers), many, HUGE, "".join(map(str, numbers)),
        iter(numbers), *odd_things(),
    ]


def not_a_club(clubs):
    """What is none of so many clubs."""
    return [clubs, clubs + 1, -1, -clubs, HUGE, -HUGE, [], [0], (0, 1), *odd_things()]


# Each function of the interface that has rounds, with good arguments for four clubs and three rounds.
ROUNDS_FUNCTIONS = [
    (need_rounds, (FOUR,)),
    (club_row, (FOUR, 0)),
    (breaks, (FOUR, 0)),
    (meetings, (FOUR, 0, 1)),
    (meet_once, (FOUR,)),
    (meet_twice, (FOUR,)),
    (moved, (FOUR, [2, 0, 1])),
    (turned, (FOUR, 0, 1)),
    (exchanged, (FOUR, 0, 1)),
    (without, (FOUR, 0)),
    (rounds_text, (FOUR,)),
]

# Each one that has clubs; Season is called as a function is.
CLUB_FUNCTIONS = [
    *ROUNDS_FUNCTIONS,
    (need_clubs, ()),
    (once_round, ()),
    (twice_round, ()),
    (least_breaks, ()),
    (rounds_of, ("0-1",)),
    (Season, ()),
]


def own(things):
    """A deep copy, so that no test can spoil what another one hands in."""
    return copy.deepcopy(things)


def plain_row(rounds, club):
    """A club's row, counted without the program."""
    homes = [[home for home, _ in games] for games in rounds]
    aways = [[away for _, away in games] for games in rounds]
    return [1 if club in homes[k] else 0 if club in aways[k] else None for k in range(len(rounds))]


def plain_breaks(rounds, club):
    """How many breaks a club has, counted without the program."""
    played = [place for place in plain_row(rounds, club) if place is not None]
    return sum(played[k] == played[k - 1] for k in range(1, len(played)))


def all_breaks(clubs, rounds):
    """How many breaks all clubs have together, counted without the program."""
    return sum(plain_breaks(rounds, club) for club in range(clubs))
