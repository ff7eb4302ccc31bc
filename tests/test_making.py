"""The lists that are made: once round with as few breaks as can be, and twice round."""
import itertools
import unittest

from roundlist.making import least_breaks, once_round, twice_round
from tests.helpers import COUNTS, all_breaks, plain_breaks, plain_row


def games_of(rounds):
    return [game for games in rounds for game in games]


class MadeTest(unittest.TestCase):
    """What holds of every list that is made."""

    def check_form(self, clubs, rounds):
        self.assertIs(type(rounds), list)
        for games in rounds:
            self.assertIs(type(games), list)
            self.assertEqual(games, sorted(games))
            playing = [club for game in games for club in game]
            self.assertEqual(len(playing), len(set(playing)))
            self.assertEqual(len(games), clubs // 2)
        for game in games_of(rounds):
            self.assertIs(type(game), tuple)
            self.assertEqual([type(club) for club in game], [int, int])
            self.assertTrue(all(0 <= club < clubs for club in game))


class OnceRoundTest(MadeTest):
    def test_its_form(self):
        for clubs in COUNTS:
            with self.subTest(clubs=clubs):
                self.check_form(clubs, once_round(clubs))

    def test_each_two_meet_just_once(self):
        for clubs in COUNTS:
            with self.subTest(clubs=clubs):
                met = sorted(tuple(sorted(game)) for game in games_of(once_round(clubs)))
                self.assertEqual(met, list(itertools.combinations(range(clubs), 2)))

    def test_as_few_rounds_as_can_be(self):
        for clubs in COUNTS:
            with self.subTest(clubs=clubs):
                self.assertEqual(len(once_round(clubs)), clubs if clubs % 2 else clubs - 1)

    def test_as_many_at_home_as_away_or_one_more_or_fewer(self):
        for clubs in COUNTS:
            rounds = once_round(clubs)
            for club in range(clubs):
                with self.subTest(clubs=clubs, club=club):
                    row = plain_row(rounds, club)
                    self.assertEqual(abs(row.count(1) - row.count(0)), 0 if clubs % 2 else 1)

    def test_breaks_of_all_clubs(self):
        for clubs in COUNTS:
            with self.subTest(clubs=clubs):
                self.assertEqual(all_breaks(clubs, once_round(clubs)), 0 if clubs % 2 else clubs - 2)

    def test_two_clubs_have_none_and_their_rows_are_the_other_way_round(self):
        for clubs in range(2, 21, 2):
            with self.subTest(clubs=clubs):
                rounds = once_round(clubs)
                without = [club for club in range(clubs) if plain_breaks(rounds, club) == 0]
                self.assertEqual(len(without), 2)
                one, other = (plain_row(rounds, club) for club in without)
                self.assertEqual(one, [1 - place for place in other])


class LeastBreaksTest(unittest.TestCase):
    def test_two_fewer_than_clubs_or_none(self):
        for clubs in COUNTS:
            with self.subTest(clubs=clubs):
                self.assertEqual(least_breaks(clubs), 0 if clubs % 2 else clubs - 2)
                self.assertIs(type(least_breaks(clubs)), int)

    def test_no_list_of_four_clubs_has_fewer(self):
        pairings = [[(0, 1), (2, 3)], [(0, 2), (1, 3)], [(0, 3), (1, 2)]]
        found = []
        for order in itertools.permutations(pairings):
            for turns in itertools.product((1, -1), repeat=6):
                rounds = [[games[k][::turns[2 * at + k]] for k in (0, 1)] for at, games in enumerate(order)]
                found.append(all_breaks(4, rounds))
        self.assertEqual(least_breaks(4), min(found))


class TwiceRoundTest(MadeTest):
    def test_its_form(self):
        for clubs in COUNTS:
            with self.subTest(clubs=clubs):
                self.check_form(clubs, twice_round(clubs))

    def test_ahead_is_the_list_once_round(self):
        for clubs in COUNTS:
            with self.subTest(clubs=clubs):
                first = once_round(clubs)
                self.assertEqual(twice_round(clubs)[:len(first)], first)

    def test_behind_it_all_homes_are_exchanged(self):
        for clubs in COUNTS:
            with self.subTest(clubs=clubs):
                first = once_round(clubs)
                turned = [sorted((away, home) for home, away in games) for games in first]
                self.assertEqual(twice_round(clubs)[len(first):], turned)

    def test_each_two_meet_just_once_at_each_ones_home(self):
        for clubs in COUNTS:
            with self.subTest(clubs=clubs):
                met = sorted(games_of(twice_round(clubs)))
                self.assertEqual(met, list(itertools.permutations(range(clubs), 2)))


if __name__ == "__main__":
    unittest.main()
