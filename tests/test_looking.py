"""Rows, breaks, meetings, and whether all meet."""
import unittest

from roundlist.looking import breaks, club_row, meet_once, meet_twice, meetings
from roundlist.making import once_round, twice_round
from tests.helpers import COUNTS, FOUR, own, plain_row

# Five clubs: club 0 rests again and again, club 4 never plays.
RESTS = [
    [(0, 1)],
    [(1, 2)],
    [(0, 3)],
    [],
    [(2, 0), (3, 1)],
    [(3, 2)],
    [],
    [(3, 0)],
    [(1, 0)],
    [(0, 2)],
]


class RowTest(unittest.TestCase):
    def test_home_is_1_and_away_is_0(self):
        self.assertEqual(club_row(4, own(FOUR), 0), [1, 1, 0])
        self.assertEqual(club_row(4, own(FOUR), 1), [1, 0, 1])
        self.assertEqual(club_row(4, own(FOUR), 2), [0, 0, 0])
        self.assertEqual(club_row(4, own(FOUR), 3), [0, 1, 1])

    def test_a_round_in_which_it_does_not_play_is_none(self):
        self.assertEqual(club_row(5, own(RESTS), 0), [1, None, 1, None, 0, None, None, 0, 0, 1])
        self.assertEqual(club_row(5, own(RESTS), 4), [None] * 10)

    def test_it_is_found_wherever_it_stands_in_a_round(self):
        rounds = [[(4, 5), (2, 3), (0, 1)], [(1, 2), (5, 0), (3, 4)]]
        self.assertEqual([club_row(6, rounds, club) for club in range(6)], [
            [1, 0], [0, 1], [1, 0], [0, 1], [1, 0], [0, 1],
        ])

    def test_of_no_rounds_it_is_empty(self):
        self.assertEqual(club_row(2, [], 1), [])

    def test_its_kinds(self):
        row = club_row(5, own(RESTS), 0)
        self.assertIs(type(row), list)
        self.assertEqual({type(place) for place in row}, {int, type(None)})

    def test_rows_of_made_rounds(self):
        for clubs in COUNTS:
            for club in range(clubs):
                with self.subTest(clubs=clubs, club=club):
                    rounds = twice_round(clubs)
                    self.assertEqual(club_row(clubs, rounds, club), plain_row(rounds, club))


class BreaksTest(unittest.TestCase):
    def test_at_home_twice_running_and_away_twice_running(self):
        self.assertEqual(breaks(4, own(FOUR), 0), [1])
        self.assertEqual(breaks(4, own(FOUR), 1), [])
        self.assertEqual(breaks(4, own(FOUR), 2), [1, 2])
        self.assertEqual(breaks(4, own(FOUR), 3), [2])

    def test_over_rounds_in_which_it_does_not_play(self):
        self.assertEqual(breaks(5, own(RESTS), 0), [2, 7, 8])

    def test_a_change_over_a_rest_is_none(self):
        self.assertEqual(breaks(3, [[(0, 1)], [], [(2, 0)], [], [], [(0, 2)]], 0), [])

    def test_the_first_game_is_none(self):
        self.assertEqual(breaks(2, [[(0, 1)]], 0), [])
        self.assertEqual(breaks(2, [[(0, 1)]], 1), [])
        self.assertEqual(breaks(2, [[], [], [(0, 1)]], 0), [])
        self.assertEqual(breaks(2, [[], [], [(0, 1)]], 1), [])

    def test_a_rest_is_none(self):
        self.assertEqual(breaks(5, own(RESTS), 4), [])
        self.assertEqual(breaks(3, [[(0, 1)], [], []], 0), [])
        self.assertEqual(breaks(3, [[(0, 1)], [], []], 1), [])
        self.assertEqual(breaks(3, [[], []], 2), [])

    def test_of_no_rounds_there_are_none(self):
        self.assertEqual(breaks(2, [], 0), [])

    def test_its_kinds(self):
        found = breaks(5, own(RESTS), 0)
        self.assertIs(type(found), list)
        self.assertEqual({type(number) for number in found}, {int})

    def test_many_are_told_rising(self):
        rounds = [[(0, other)] for other in range(1, 20)]
        self.assertEqual(breaks(20, rounds, 0), list(range(1, 19)))
        rounds = [[(other, 0)] for other in range(1, 20)]
        self.assertEqual(breaks(20, rounds, 0), list(range(1, 19)))


class MeetingsTest(unittest.TestCase):
    def test_at_home_and_away(self):
        rounds = [[(2, 3)], [(2, 1)], [(0, 1)], [], [(1, 2)], [(3, 2), (1, 0)]]
        self.assertEqual(meetings(4, own(rounds), 2, 1), [(1, 2), (4, 1)])
        self.assertEqual(meetings(4, own(rounds), 1, 2), [(1, 2), (4, 1)])
        self.assertEqual(meetings(4, own(rounds), 0, 1), [(2, 0), (5, 1)])
        self.assertEqual(meetings(4, own(rounds), 3, 2), [(0, 2), (5, 3)])

    def test_only_at_home_and_only_away(self):
        self.assertEqual(meetings(4, own(FOUR), 0, 3), [(0, 0)])
        self.assertEqual(meetings(4, own(FOUR), 3, 0), [(0, 0)])
        self.assertEqual(meetings(4, own(FOUR), 0, 1), [(2, 1)])
        self.assertEqual(meetings(4, own(FOUR), 1, 0), [(2, 1)])

    def test_none(self):
        self.assertEqual(meetings(4, [], 0, 1), [])
        self.assertEqual(meetings(4, [[], []], 0, 1), [])
        self.assertEqual(meetings(4, [[(0, 2), (1, 3)], [(3, 0), (2, 1)]], 0, 1), [])

    def test_its_kinds(self):
        found = meetings(2, [[(1, 0)], [(0, 1)]], 0, 1)
        self.assertEqual(found, [(0, 1), (1, 0)])
        self.assertIs(type(found), list)
        self.assertEqual({type(meeting) for meeting in found}, {tuple})
        self.assertEqual({type(number) for meeting in found for number in meeting}, {int})

    def test_each_two_of_made_rounds(self):
        for clubs in COUNTS:
            rounds = twice_round(clubs)
            half = len(rounds) // 2
            for one in range(clubs):
                for other in range(clubs):
                    if one != other:
                        with self.subTest(clubs=clubs, one=one, other=other):
                            (first, host), (second, guest) = meetings(clubs, rounds, one, other)
                            self.assertEqual({host, guest}, {one, other})
                            self.assertEqual(second, first + half)
                            self.assertIn((host, one + other - host), rounds[first])


class MeetTest(unittest.TestCase):
    def both(self, clubs, rounds):
        """Whether they meet once, and whether twice; each is True or False and nothing else."""
        told = (meet_once(clubs, rounds), meet_twice(clubs, rounds))
        self.assertEqual({type(thing) for thing in told}, {bool})
        return told

    def test_no_rounds(self):
        for clubs in COUNTS:
            with self.subTest(clubs=clubs):
                self.assertEqual(self.both(clubs, []), (False, False))
                self.assertEqual(self.both(clubs, [[], [], []]), (False, False))

    def test_two_clubs(self):
        self.assertEqual(self.both(2, [[(0, 1)]]), (True, False))
        self.assertEqual(self.both(2, [[(1, 0)]]), (True, False))
        self.assertEqual(self.both(2, [[(0, 1)], [(1, 0)]]), (False, True))
        self.assertEqual(self.both(2, [[], [(1, 0)], [], [(0, 1)]]), (False, True))

    def test_once(self):
        self.assertEqual(self.both(4, own(FOUR)), (True, False))

    def test_more_rounds_than_needed_and_any_order_of_games(self):
        self.assertEqual(self.both(3, [[], [(2, 0)], [(1, 0)], [], [(1, 2)], []]), (True, False))
        self.assertEqual(self.both(4, [[(2, 1), (0, 3)], [(3, 2), (1, 0)], [(3, 1), (0, 2)]]), (True, False))

    def test_a_club_that_does_not_play(self):
        self.assertEqual(self.both(5, own(FOUR)), (False, False))
        self.assertEqual(self.both(3, [[(0, 1)], [(1, 0)]]), (False, False))

    def test_one_game_missing(self):
        self.assertEqual(self.both(3, [[(0, 1)], [(1, 2)]]), (False, False))
        self.assertEqual(self.both(3, [[(0, 1)], [(1, 2)], [(0, 2)], [(1, 0)], [(2, 1)]]), (False, False))

    def test_two_meet_twice_and_the_others_once(self):
        self.assertEqual(self.both(3, [[(0, 1)], [(1, 2)], [(0, 2)], [(1, 0)]]), (False, False))

    def test_two_meet_twice_and_others_never(self):
        self.assertEqual(self.both(3, [[(0, 1)], [(1, 0)], [(1, 2)]]), (False, False))

    def test_all_lists_that_are_made(self):
        for clubs in COUNTS:
            with self.subTest(clubs=clubs):
                self.assertEqual(self.both(clubs, once_round(clubs)), (True, False))
                self.assertEqual(self.both(clubs, twice_round(clubs)), (False, True))

    def test_any_game_that_is_left_out_is_missed(self):
        for at in range(3):
            for left in range(2):
                rounds = own(FOUR)
                del rounds[at][left]
                with self.subTest(at=at, left=left):
                    self.assertEqual(self.both(4, rounds), (False, False))


if __name__ == "__main__":
    unittest.main()
