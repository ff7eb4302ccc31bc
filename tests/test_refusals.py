"""What is refused: numbers of clubs, rounds and clubs, and which refusal comes first."""
import unittest

from roundlist.changing import exchanged, moved, turned, without
from roundlist.errors import BadClub, BadClubs, BadOrder, BadRounds
from roundlist.looking import breaks, club_row, meetings, need_clubs, need_rounds
from tests.helpers import (
    CLUB_FUNCTIONS, COUNTS, FOUR, HUGE, ROUNDS_FUNCTIONS, Hostile, not_a_club, not_an_order, not_clubs, odd_things,
    own,
)


class RefusalTest(unittest.TestCase):
    def refused(self, error, function, *arguments):
        """The very refusal comes; what was handed in is named by its kind, as it may have no text."""
        kinds = ", ".join(thing.__class__.__name__ for thing in arguments)
        with self.subTest(function=function.__name__, kinds=kinds):
            try:
                function(*arguments)
            except Exception as caught:
                self.assertIs(caught.__class__, error)
            else:
                self.fail("nothing was refused")


class ClubsTest(RefusalTest):
    def test_2_to_20_are_let_by(self):
        for clubs in COUNTS:
            with self.subTest(clubs=clubs):
                self.assertIsNone(need_clubs(clubs))

    def test_all_else_is_refused(self):
        for thing in not_clubs():
            self.refused(BadClubs, need_clubs, thing)

    def test_every_function_refuses_clubs_alike(self):
        for function, rest in CLUB_FUNCTIONS:
            for thing in not_clubs():
                self.refused(BadClubs, function, thing, *own(rest))

    def test_clubs_are_refused_whatever_comes_later(self):
        for function, rest in CLUB_FUNCTIONS:
            for thing in [1, 21, True, None, "4", HUGE]:
                self.refused(BadClubs, function, thing, *[Hostile() for _ in rest])
                self.refused(BadClubs, function, thing, *[None for _ in rest])


class GoodRoundsTest(unittest.TestCase):
    def test_none_to_40_are_let_by(self):
        for many in range(41):
            with self.subTest(many=many):
                self.assertIsNone(need_rounds(2, [[] for _ in range(many)]))

    def test_40_with_games_are_let_by(self):
        rounds = [[(home, (home + step) % 20)] for step in (1, 2) for home in range(20)]
        self.assertIsNone(need_rounds(20, rounds))

    def test_rounds_without_games_stand_between_others(self):
        self.assertIsNone(need_rounds(3, [[], [(0, 1)], [], [(2, 1)], []]))

    def test_games_and_rounds_may_come_in_any_order(self):
        self.assertIsNone(need_rounds(6, [[(4, 5), (3, 2), (0, 1)], [(5, 0), (1, 3)], [(2, 4)]]))

    def test_a_second_game_with_homes_exchanged_is_let_by(self):
        self.assertIsNone(need_rounds(2, [[(0, 1)], [(1, 0)]]))
        self.assertIsNone(need_rounds(4, [[(0, 1), (2, 3)], [(3, 2), (1, 0)]]))

    def test_first_and_last_club_are_clubs(self):
        for clubs in COUNTS:
            with self.subTest(clubs=clubs):
                self.assertIsNone(need_rounds(clubs, [[(0, clubs - 1)], [(clubs - 1, 0)]]))

    def test_one_list_may_stand_for_several_rounds_without_games(self):
        empty = []
        self.assertIsNone(need_rounds(2, [empty, empty]))


class BadRoundsTest(RefusalTest):
    def bad(self, clubs, rounds):
        """Not only need_rounds refuses them so, but all that have rounds."""
        for function, rest in ROUNDS_FUNCTIONS:
            self.refused(BadRounds, function, clubs, rounds, *rest[1:])

    def test_41_are_too_many(self):
        self.bad(4, [[] for _ in range(41)])
        self.bad(4, [[] for _ in range(400)])

    def test_other_kinds_in_the_place_of_the_rounds(self):
        for thing in [0, 1, HUGE, ([(0, 1)],), ([],), *odd_things()]:
            self.bad(4, thing)

    def test_other_kinds_in_the_place_of_one_round(self):
        for thing in [0, 1, HUGE, ((0, 1),), {(0, 1)}, {(0, 1): 1}, *odd_things()]:
            self.bad(4, [thing])
            self.bad(4, [[(0, 1)], [], thing])

    def test_other_kinds_in_the_place_of_one_game(self):
        for thing in [0, 1, HUGE, [], [0, 1], [0, 1, 2], [(0, 1)], ((0, 1),), "01", *odd_things()]:
            self.bad(4, [[thing]])
            self.bad(4, [[], [(2, 3), thing]])

    def test_what_is_none_of_the_clubs_in_the_place_of_one(self):
        for thing in not_a_club(4):
            self.bad(4, [[(thing, 1)]])
            self.bad(4, [[(0, thing)]])
            self.bad(4, [[(2, 3)], [(2, 1), (0, thing)]])
            self.bad(4, [[(thing, thing)]])

    def test_a_game_of_more_or_fewer_than_two(self):
        for game in [(), (0,), (0, 1, 2), (0, 1, 2, 3), (0, 1, None)]:
            self.bad(4, [[game]])

    def test_a_club_that_is_not_there(self):
        for clubs in COUNTS:
            with self.subTest(clubs=clubs):
                self.refused(BadRounds, need_rounds, clubs, [[(0, clubs)]])
                self.refused(BadRounds, need_rounds, clubs, [[(clubs, 0)]])
                self.refused(BadRounds, need_rounds, clubs, [[(-1, 0)]])
                self.refused(BadRounds, need_rounds, clubs, [[(0, -1)]])

    def test_a_club_against_itself(self):
        for club in range(4):
            with self.subTest(club=club):
                self.bad(4, [[(club, club)]])

    def test_a_club_twice_in_one_round(self):
        for game in [(0, 2), (2, 0), (1, 2), (2, 1), (1, 0)]:
            self.bad(4, [[(0, 1), game]])
            self.bad(4, [[], [game, (0, 1)]])
        self.bad(6, [[(0, 1), (2, 3), (4, 0)]])

    def test_the_same_game_twice_in_one_round(self):
        self.bad(4, [[(0, 1), (0, 1)]])
        self.bad(4, [[(0, 1), (2, 3), (0, 1)]])

    def test_the_same_game_twice_in_two_rounds(self):
        self.bad(4, [[(0, 1)], [(0, 1)]])
        self.bad(4, [[(2, 3), (0, 1)], [(1, 0)], [], [(3, 2), (0, 1)]])
        games = [(0, 1)]
        self.bad(4, [games, games])

    def test_a_list_that_holds_itself(self):
        loop = []
        loop.append(loop)
        self.bad(4, loop)
        self.bad(4, [loop])

    def test_rounds_of_more_clubs_are_none_of_fewer(self):
        self.assertIsNone(need_rounds(4, own(FOUR)))
        self.refused(BadRounds, need_rounds, 3, own(FOUR))

    def test_rounds_are_refused_whatever_comes_later(self):
        for function, rest in ROUNDS_FUNCTIONS:
            for thing in [None, (), [[(0, 0)]], Hostile()]:
                self.refused(BadRounds, function, 4, thing, *[Hostile() for _ in rest[1:]])


# Wrong clubs, wrong rounds of four clubs, and what is wrong behind them.
WRONG_CLUBS = [0, 1, 21, HUGE, True, None, "4", [4], Hostile()]
WRONG_ROUNDS = [None, 0, True, "", (), {}, [None], [[None]], [[(0, 0)]], [[(0, 4)]], [[(0, True)]], Hostile()]
WRONG_THINGS = [None, -1, 4, HUGE, True, False, "0", (), {}, [None], [[]], Hostile()]


class OrderOfRefusalsTest(RefusalTest):
    def test_clubs_ahead_of_rounds_ahead_of_the_rest(self):
        for function, rest in ROUNDS_FUNCTIONS:
            for clubs in WRONG_CLUBS:
                for rounds in [own(FOUR), *WRONG_ROUNDS]:
                    for thing in WRONG_THINGS:
                        self.refused(BadClubs, function, clubs, rounds, *[thing for _ in rest[1:]])
            for rounds in WRONG_ROUNDS:
                for thing in WRONG_THINGS:
                    self.refused(BadRounds, function, 4, rounds, *[thing for _ in rest[1:]])

    def test_what_is_good_behind_it_does_not_help(self):
        for function, rest in ROUNDS_FUNCTIONS:
            for clubs in WRONG_CLUBS:
                self.refused(BadClubs, function, clubs, *own(rest))
            for rounds in WRONG_ROUNDS:
                self.refused(BadRounds, function, 4, rounds, *own(rest[1:]))

    def test_the_rest_is_looked_at_last(self):
        for thing in WRONG_THINGS:
            self.refused(BadOrder, moved, 4, own(FOUR), thing)
            self.refused(BadClub, without, 4, own(FOUR), thing)
            for function in (meetings, turned, exchanged):
                for other in WRONG_THINGS:
                    self.refused(BadClub, function, 4, own(FOUR), thing, other)


class BadOrderTest(RefusalTest):
    def test_what_is_no_order(self):
        for thing in not_an_order(3):
            self.refused(BadOrder, moved, 4, own(FOUR), thing)
        for thing in not_an_order(40):
            self.refused(BadOrder, moved, 2, [[] for _ in range(40)], thing)

    def test_an_order_that_holds_itself(self):
        loop = []
        loop.append(loop)
        self.refused(BadOrder, moved, 2, [[(0, 1)]], loop)

    def test_every_list_of_numbers_of_two_rounds_but_two(self):
        for first in range(-3, 4):
            for second in range(-3, 4):
                order = [first, second]
                if sorted(order) == [0, 1]:
                    self.assertEqual(len(moved(2, [[(0, 1)], []], order)), 2)
                else:
                    self.refused(BadOrder, moved, 2, [[(0, 1)], []], order)


class BadClubTest(RefusalTest):
    def test_what_is_no_club_has_no_row_and_no_breaks(self):
        for clubs in (2, 4, 20):
            for thing in not_a_club(clubs):
                self.refused(BadClub, club_row, clubs, [[(0, 1)]], thing)
                self.refused(BadClub, breaks, clubs, [], thing)

    def test_what_is_no_club_is_not_left_out(self):
        for clubs in (2, 4, 20):
            for thing in not_a_club(clubs):
                self.refused(BadClub, without, clubs, [[(0, 1)]], thing)
                self.refused(BadClub, without, clubs, [], thing)

    def test_what_is_no_club_has_no_meetings_and_is_not_turned_or_exchanged(self):
        for function in (meetings, turned, exchanged):
            for thing in not_a_club(4):
                self.refused(BadClub, function, 4, own(FOUR), thing, 1)
                self.refused(BadClub, function, 4, own(FOUR), 1, thing)
                self.refused(BadClub, function, 4, [], thing, thing)

    def test_no_club_is_both(self):
        for function in (meetings, turned, exchanged):
            for clubs in (2, 3, 20):
                for club in range(clubs):
                    self.refused(BadClub, function, clubs, [], club, club)
                    self.refused(BadClub, function, clubs, [[(0, 1)], [(1, 0)]], club, club)

    def test_each_club_that_is_there_is_let_by(self):
        for clubs in COUNTS:
            for club in range(clubs):
                with self.subTest(clubs=clubs, club=club):
                    self.assertEqual(club_row(clubs, [], club), [])
                    self.assertEqual(breaks(clubs, [], club), [])
                    self.assertEqual(meetings(clubs, [], club, (club + 1) % clubs), [])
                    self.assertEqual(turned(clubs, [], club, (club + 1) % clubs), [])
                    self.assertEqual(exchanged(clubs, [], club, (club + 1) % clubs), [])
                    self.assertEqual(without(clubs, [], club), [])


if __name__ == "__main__":
    unittest.main()
