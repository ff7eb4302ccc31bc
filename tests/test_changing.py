"""Rounds put otherwise: in another order, with games turned, with clubs exchanged, without a club."""
import itertools
import random
import unittest

from roundlist.changing import exchanged, moved, turned, without
from roundlist.errors import BadOrder
from roundlist.looking import meet_once, meet_twice, need_rounds
from roundlist.making import least_breaks, once_round, twice_round
from tests.helpers import COUNTS, FOUR, all_breaks, own

# Five clubs, games in no order: 0 and 1 meet twice, 2 and 3 twice, 0 and 4 once, 1 and 4 never.
MIXED = [
    [(3, 2), (1, 0)],
    [],
    [(4, 0), (2, 1)],
    [(2, 3), (0, 1)],
    [(4, 3), (0, 2)],
]
RISING = [sorted(games) for games in MIXED]


class ChangingTest(unittest.TestCase):
    def told(self, clubs, rounds, expected):
        """These are the rounds, of plain kinds, rising in each round, and good to be handed in again."""
        self.assertEqual(rounds, expected)
        self.assertIs(type(rounds), list)
        for games in rounds:
            self.assertIs(type(games), list)
            self.assertEqual(games, sorted(games))
            for game in games:
                self.assertIs(type(game), tuple)
                self.assertEqual([type(club) for club in game], [int, int])
        self.assertIsNone(need_rounds(clubs, rounds))


class MovedTest(ChangingTest):
    def test_every_order_of_few_rounds(self):
        for many in range(6):
            for order in itertools.permutations(range(many)):
                with self.subTest(order=order):
                    rounds = moved(5, own(MIXED[:many]), list(order))
                    self.told(5, rounds, [RISING[number] for number in order])

    def test_the_order_tells_which_round_comes_when(self):
        self.told(4, moved(4, own(FOUR), [2, 0, 1]), [[(1, 0), (3, 2)], [(0, 3), (1, 2)], [(0, 2), (3, 1)]])
        self.told(4, moved(4, own(FOUR), [1, 2, 0]), [[(0, 2), (3, 1)], [(1, 0), (3, 2)], [(0, 3), (1, 2)]])

    def test_no_rounds_with_the_empty_order(self):
        for clubs in COUNTS:
            with self.subTest(clubs=clubs):
                self.told(clubs, moved(clubs, [], []), [])

    def test_no_rounds_have_no_other_order(self):
        for order in [[0], [1], [-1], [None], [[]], [0, 1]]:
            with self.subTest(order=order), self.assertRaises(BadOrder):
                moved(4, [], order)

    def test_one_round_has_one_order(self):
        self.told(4, moved(4, [[(2, 3), (0, 1)]], [0]), [[(0, 1), (2, 3)]])
        for order in [[], [1], [-1], [False], [0, 0], [0, 1]]:
            with self.subTest(order=order), self.assertRaises(BadOrder):
                moved(4, [[(2, 3), (0, 1)]], order)

    def test_the_same_order_again_moves_again(self):
        rounds = own(RISING)
        for times in range(1, 6):
            rounds = moved(5, rounds, [1, 2, 3, 4, 0])
            self.told(5, rounds, RISING[times:] + RISING[:times])

    def test_40_rounds_falling(self):
        rounds = [[(home, (home + step) % 20)] for step in (1, 2) for home in range(20)]
        self.told(20, moved(20, own(rounds), list(range(39, -1, -1))), rounds[::-1])

    def test_one_list_for_several_rounds_is_told_as_several(self):
        empty = []
        rounds = moved(2, [empty, empty], [1, 0])
        self.told(2, rounds, [[], []])
        self.assertIsNot(rounds[0], rounds[1])


class TurnedTest(ChangingTest):
    def both_ways(self, clubs, rounds, one, other, expected):
        self.told(clubs, turned(clubs, own(rounds), one, other), expected)
        self.told(clubs, turned(clubs, own(rounds), other, one), expected)

    def test_no_game(self):
        self.both_ways(5, MIXED, 1, 4, RISING)
        self.both_ways(5, MIXED, 1, 3, RISING)
        self.both_ways(5, [[], []], 0, 4, [[], []])
        self.both_ways(2, [], 0, 1, [])

    def test_one_game(self):
        self.both_ways(5, MIXED, 0, 4, [RISING[0], [], [(0, 4), (2, 1)], RISING[3], RISING[4]])
        self.both_ways(5, MIXED, 3, 4, [*RISING[:4], [(0, 2), (3, 4)]])
        self.both_ways(4, FOUR, 0, 3, [[(1, 2), (3, 0)], *FOUR[1:]])

    def test_two_games(self):
        self.both_ways(5, MIXED, 0, 1, [[(0, 1), (3, 2)], [], RISING[2], [(1, 0), (2, 3)], RISING[4]])
        self.both_ways(5, MIXED, 2, 3, [[(1, 0), (2, 3)], [], RISING[2], [(0, 1), (3, 2)], RISING[4]])
        self.both_ways(2, [[(0, 1)], [(1, 0)]], 0, 1, [[(1, 0)], [(0, 1)]])

    def test_games_of_one_of_the_two_stay(self):
        rounds = [[(0, 1), (2, 3)], [(0, 2), (1, 3)]]
        self.both_ways(4, rounds, 0, 3, rounds)
        self.both_ways(4, rounds, 1, 2, rounds)

    def test_turned_twice_all_is_as_it_was(self):
        for one, other in itertools.permutations(range(5), 2):
            with self.subTest(one=one, other=other):
                self.told(5, turned(5, turned(5, own(MIXED), one, other), one, other), RISING)

    def test_each_two_of_made_rounds(self):
        for clubs in COUNTS:
            for rounds in (once_round(clubs), twice_round(clubs)):
                for pair in itertools.combinations(range(clubs), 2):
                    expected = [sorted(game[::-1] if set(game) == set(pair) else game for game in games)
                                for games in rounds]
                    with self.subTest(clubs=clubs, pair=pair):
                        self.both_ways(clubs, rounds, *pair, expected)


class ExchangedTest(ChangingTest):
    def both_ways(self, clubs, rounds, one, other, expected):
        self.told(clubs, exchanged(clubs, own(rounds), one, other), expected)
        self.told(clubs, exchanged(clubs, own(rounds), other, one), expected)

    def test_no_game(self):
        self.both_ways(5, MIXED, 1, 4, [
            [(3, 2), (4, 0)], [], [(1, 0), (2, 4)], [(0, 4), (2, 3)], [(0, 2), (1, 3)],
        ])
        self.both_ways(4, [[(2, 3)], []], 0, 1, [[(2, 3)], []])
        self.both_ways(2, [[], []], 0, 1, [[], []])
        self.both_ways(2, [], 0, 1, [])

    def test_one_game(self):
        self.both_ways(5, MIXED, 0, 4, [
            [(1, 4), (3, 2)], [], [(0, 4), (2, 1)], [(2, 3), (4, 1)], [(0, 3), (4, 2)],
        ])
        self.both_ways(4, FOUR, 0, 3, [[(1, 2), (3, 0)], [(0, 1), (3, 2)], [(0, 2), (1, 3)]])

    def test_two_games(self):
        self.both_ways(5, MIXED, 0, 1, [
            [(0, 1), (3, 2)], [], [(2, 0), (4, 1)], [(1, 0), (2, 3)], [(1, 2), (4, 3)],
        ])
        self.both_ways(2, [[(0, 1)], [(1, 0)]], 0, 1, [[(1, 0)], [(0, 1)]])

    def test_one_plays_and_the_other_does_not(self):
        self.both_ways(4, [[(0, 1)], [(1, 2)]], 0, 3, [[(3, 1)], [(1, 2)]])

    def test_exchanged_twice_all_is_as_it_was(self):
        for one, other in itertools.permutations(range(5), 2):
            with self.subTest(one=one, other=other):
                self.told(5, exchanged(5, exchanged(5, own(MIXED), one, other), one, other), RISING)

    def test_each_two_of_made_rounds(self):
        for clubs in COUNTS:
            for rounds in (once_round(clubs), twice_round(clubs)):
                for one, other in itertools.combinations(range(clubs), 2):
                    new = {**{club: club for club in range(clubs)}, one: other, other: one}
                    expected = [sorted((new[home], new[away]) for home, away in games) for games in rounds]
                    with self.subTest(clubs=clubs, one=one, other=other):
                        self.both_ways(clubs, rounds, one, other, expected)


class WithoutTest(ChangingTest):
    def test_a_club_with_games(self):
        self.told(5, without(5, own(MIXED), 0), [[(3, 2)], [], [(2, 1)], [(2, 3)], [(4, 3)]])
        self.told(5, without(5, own(MIXED), 2), [[(1, 0)], [], [(4, 0)], [(0, 1)], [(4, 3)]])
        self.told(5, without(5, own(MIXED), 4), [RISING[0], [], [(2, 1)], RISING[3], [(0, 2)]])

    def test_a_club_without_games(self):
        self.told(6, without(6, own(MIXED), 5), RISING)
        self.told(4, without(4, [[(2, 1)], []], 0), [[(2, 1)], []])
        self.told(2, without(2, [], 1), [])

    def test_rounds_stay_where_no_game_is_left(self):
        self.told(2, without(2, [[(0, 1)], [(1, 0)]], 0), [[], []])
        self.told(2, without(2, [[(0, 1)], [(1, 0)]], 1), [[], []])

    def test_no_other_club_gets_its_number(self):
        self.told(4, without(4, own(FOUR), 0), [[(1, 2)], [(3, 1)], [(3, 2)]])
        self.told(4, without(4, without(4, own(FOUR), 0), 1), [[], [], [(3, 2)]])

    def test_each_club_of_made_rounds(self):
        for clubs in COUNTS:
            for rounds in (once_round(clubs), twice_round(clubs)):
                for club in range(clubs):
                    with self.subTest(clubs=clubs, club=club):
                        left = [[game for game in games if club not in game] for games in rounds]
                        self.told(clubs, without(clubs, rounds, club), left)


class FromMadeTest(unittest.TestCase):
    """What holds of all rounds that come from made ones by moved, turned and exchanged."""

    def check(self, clubs, rounds, all_meet):
        self.assertIs(all_meet(clubs, rounds), True)
        self.assertGreaterEqual(all_breaks(clubs, rounds), least_breaks(clubs))

    def test_every_order_and_turn_of_four_clubs(self):
        pairs = list(itertools.combinations(range(4), 2))
        found = []
        for order in itertools.permutations(range(3)):
            for many in range(len(pairs) + 1):
                for some in itertools.combinations(pairs, many):
                    rounds = moved(4, once_round(4), list(order))
                    for one, other in some:
                        rounds = turned(4, rounds, one, other)
                    self.check(4, rounds, meet_once)
                    found.append(all_breaks(4, rounds))
        self.assertEqual(min(found), least_breaks(4))

    def test_long_ways_from_lists_of_all_counts(self):
        chance = random.Random(6)
        for clubs in COUNTS:
            for made, all_meet in ((once_round, meet_once), (twice_round, meet_twice)):
                rounds = made(clubs)
                for _ in range(30):
                    with self.subTest(clubs=clubs, made=made.__name__):
                        rounds = self.step(chance, clubs, rounds)
                        self.check(clubs, rounds, all_meet)

    def step(self, chance, clubs, rounds):
        way = chance.choice((moved, turned, exchanged))
        if way is moved:
            return moved(clubs, rounds, chance.sample(range(len(rounds)), len(rounds)))
        return way(clubs, rounds, *chance.sample(range(clubs), 2))

    def test_exchanged_clubs_have_as_many_breaks(self):
        for clubs in COUNTS:
            rounds = once_round(clubs)
            for one, other in itertools.combinations(range(clubs), 2):
                with self.subTest(clubs=clubs, one=one, other=other):
                    self.assertEqual(all_breaks(clubs, exchanged(clubs, rounds, one, other)), least_breaks(clubs))


if __name__ == "__main__":
    unittest.main()
