"""A season: its first rounds, its deeds, and how they are taken back."""
import random
import unittest

from roundlist.changing import exchanged, moved, turned, without
from roundlist.errors import BadClub, BadClubs, BadOrder, NothingDone
from roundlist.looking import meet_once, meet_twice
from roundlist.making import least_breaks, once_round
from roundlist.season import Season
from tests.helpers import COUNTS, all_breaks, not_a_club, not_an_order, not_clubs, own

# Deeds for a season of six clubs and five rounds, each with the function that tells the same.
DEEDS = [
    ("move", moved, ([4, 2, 0, 1, 3],)),
    ("turn", turned, (5, 2)),
    ("exchange", exchanged, (0, 4)),
    ("leave", without, (3,)),
    ("turn", turned, (3, 1)),
    ("exchange", exchanged, (3, 5)),
    ("move", moved, ([0, 1, 2, 3, 4],)),
    ("leave", without, (5,)),
    ("leave", without, (5,)),
    ("turn", turned, (0, 1)),
]


class SeasonTest(unittest.TestCase):
    def stands(self, season, clubs, rounds, many):
        """This is what the season tells, of plain kinds."""
        self.assertEqual(season.clubs(), clubs)
        self.assertIs(type(season.clubs()), int)
        self.assertEqual(season.rounds(), rounds)
        self.assertIs(type(season.rounds()), list)
        for games in season.rounds():
            self.assertIs(type(games), list)
            self.assertEqual(games, sorted(games))
        self.assertEqual(season.many(), many)
        self.assertIs(type(season.many()), int)


class FirstTest(SeasonTest):
    def test_at_first_it_is_once_round(self):
        for clubs in COUNTS:
            with self.subTest(clubs=clubs):
                season = Season(clubs)
                self.stands(season, clubs, once_round(clubs), 0)
                self.assertIs(meet_once(clubs, season.rounds()), True)
                self.assertEqual(all_breaks(clubs, season.rounds()), least_breaks(clubs))

    def test_what_is_no_count_of_clubs(self):
        for thing in not_clubs():
            with self.subTest(kind=type(thing).__name__):
                self.assertRaises(BadClubs, Season, thing)

    def test_nothing_to_take_back(self):
        for clubs in COUNTS:
            with self.subTest(clubs=clubs):
                season = Season(clubs)
                for _ in range(3):
                    self.assertRaises(NothingDone, season.back)
                    self.stands(season, clubs, once_round(clubs), 0)

    def test_its_clubs_may_be_told_by_name(self):
        self.assertEqual(Season(clubs=3).clubs(), 3)


class DeedsTest(SeasonTest):
    def test_each_deed_for_itself(self):
        for name, function, arguments in DEEDS:
            with self.subTest(name=name, arguments=arguments):
                season = Season(6)
                self.assertIsNone(getattr(season, name)(*arguments))
                self.stands(season, 6, function(6, once_round(6), *arguments), 1)
                self.assertIsNone(season.back())
                self.stands(season, 6, once_round(6), 0)

    def test_a_deed_that_is_written_out(self):
        season = Season(2)
        (home, away), = season.rounds()[0]
        season.turn(0, 1)
        self.stands(season, 2, [[(away, home)]], 1)
        season.exchange(1, 0)
        self.stands(season, 2, [[(home, away)]], 2)
        season.move([0])
        self.stands(season, 2, [[(home, away)]], 3)
        season.leave(1)
        self.stands(season, 2, [[]], 4)

    def test_deeds_one_behind_another_and_all_of_them_back(self):
        season = Season(6)
        stages = [once_round(6)]
        for name, function, arguments in DEEDS:
            self.assertIsNone(getattr(season, name)(*arguments))
            stages.append(function(6, stages[-1], *arguments))
            self.stands(season, 6, stages[-1], len(stages) - 1)
        for many in range(len(DEEDS) - 1, -1, -1):
            self.assertIsNone(season.back())
            self.stands(season, 6, stages[many], many)
        self.assertRaises(NothingDone, season.back)
        self.stands(season, 6, once_round(6), 0)

    def test_what_is_done_behind_a_deed_that_was_taken_back(self):
        season = Season(6)
        season.leave(0)
        season.turn(1, 2)
        season.back()
        season.exchange(0, 3)
        self.stands(season, 6, exchanged(6, without(6, once_round(6), 0), 0, 3), 2)
        season.back()
        self.stands(season, 6, without(6, once_round(6), 0), 1)
        season.back()
        season.move([1, 0, 2, 3, 4])
        self.stands(season, 6, moved(6, once_round(6), [1, 0, 2, 3, 4]), 1)

    def test_deeds_that_change_no_game_stand(self):
        season = Season(4)
        season.leave(3)
        rounds = season.rounds()
        for name, arguments in [("move", ([0, 1, 2],)), ("turn", (3, 0)), ("turn", (1, 3)), ("leave", (3,))]:
            with self.subTest(name=name):
                getattr(season, name)(*arguments)
                self.stands(season, 4, rounds, 2)
                season.back()
                self.stands(season, 4, rounds, 1)
        season.back()
        self.stands(season, 4, once_round(4), 0)

    def test_a_deed_that_undoes_another_stands_too(self):
        season = Season(5)
        for many in range(1, 7):
            season.turn(0, 1)
            self.assertEqual(season.many(), many)
        self.stands(season, 5, once_round(5), 6)
        season.back()
        self.stands(season, 5, turned(5, once_round(5), 0, 1), 5)

    def test_all_clubs_may_leave(self):
        season = Season(4)
        for club in range(4):
            season.leave(club)
        self.stands(season, 4, [[], [], []], 4)
        season.move([2, 1, 0])
        season.exchange(0, 1)
        self.stands(season, 4, [[], [], []], 6)
        for _ in range(6):
            season.back()
        self.stands(season, 4, once_round(4), 0)

    def test_many_deeds(self):
        chance = random.Random(8)
        for clubs in (2, 3, 8, 20):
            season = Season(clubs)
            stages = [once_round(clubs)]
            for _ in range(200):
                if chance.random() < 0.3 and len(stages) > 1:
                    season.back()
                    stages.pop()
                else:
                    stages.append(self.step(chance, clubs, season, stages[-1]))
                self.stands(season, clubs, stages[-1], len(stages) - 1)
            while len(stages) > 1:
                season.back()
                stages.pop()
                self.stands(season, clubs, stages[-1], len(stages) - 1)

    def step(self, chance, clubs, season, rounds):
        """Do a deed, but leave no club out; tell what the functions make of the same."""
        name = chance.choice(("move", "turn", "exchange"))
        if name == "move":
            order = chance.sample(range(len(rounds)), len(rounds))
            season.move(order)
            return moved(clubs, rounds, order)
        two = chance.sample(range(clubs), 2)
        getattr(season, name)(*two)
        told = (turned if name == "turn" else exchanged)(clubs, rounds, *two)
        self.assertIs(meet_once(clubs, told), True)
        self.assertGreaterEqual(all_breaks(clubs, told), least_breaks(clubs))
        return told


class RefusedTest(SeasonTest):
    def seasons(self):
        """A season without a deed, and one with some."""
        first = Season(4)
        later = Season(4)
        later.turn(0, 2)
        later.leave(1)
        later.move([1, 2, 0])
        return [first, later]

    def refused(self, season, error, name, *arguments):
        rounds, many = season.rounds(), season.many()
        kinds = [type(thing).__name__ for thing in arguments]
        with self.subTest(name=name, kinds=kinds):
            with self.assertRaises(error) as caught:
                getattr(season, name)(*arguments)
            self.assertIs(type(caught.exception), error)
            self.stands(season, 4, rounds, many)

    def test_orders(self):
        for season in self.seasons():
            for thing in not_an_order(3):
                self.refused(season, BadOrder, "move", thing)

    def test_clubs(self):
        for season in self.seasons():
            for thing in not_a_club(4):
                self.refused(season, BadClub, "leave", thing)
                for name in ("turn", "exchange"):
                    self.refused(season, BadClub, name, thing, 1)
                    self.refused(season, BadClub, name, 1, thing)
                    self.refused(season, BadClub, name, thing, thing)

    def test_one_club_in_both_places(self):
        for season in self.seasons():
            for club in range(4):
                self.refused(season, BadClub, "turn", club, club)
                self.refused(season, BadClub, "exchange", club, club)

    def test_what_is_refused_is_no_deed_to_take_back(self):
        season = Season(4)
        season.turn(0, 1)
        self.assertRaises(BadClub, season.turn, 0, 4)
        self.assertRaises(BadOrder, season.move, [0, 1])
        season.back()
        self.stands(season, 4, once_round(4), 0)
        self.assertRaises(BadClub, season.leave, 4)
        self.assertRaises(NothingDone, season.back)

    def test_nothing_done_behind_deeds_that_were_taken_back(self):
        for season in self.seasons():
            while season.many():
                season.back()
            self.refused(season, NothingDone, "back")
            season.leave(2)
            season.back()
            self.refused(season, NothingDone, "back")


class OwnTest(SeasonTest):
    def spoil(self, rounds):
        for games in rounds:
            games.append((0, 0))
            games.reverse()
        rounds.append(None)
        rounds.reverse()

    def test_told_rounds_are_the_askers_own(self):
        season = Season(6)
        stages = []
        for name, _, arguments in DEEDS:
            stages.append(season.rounds())
            self.spoil(season.rounds())
            self.stands(season, 6, stages[-1], len(stages) - 1)
            getattr(season, name)(*own(arguments))
            self.spoil(season.rounds())
        while stages:
            season.back()
            self.stands(season, 6, stages.pop(), len(stages))
            self.spoil(season.rounds())

    def test_no_list_is_told_twice(self):
        season = Season(4)
        told = [season.rounds(), season.rounds()]
        season.move([0, 1, 2])
        told.append(season.rounds())
        season.back()
        told.append(season.rounds())
        lists = [*told, *[games for rounds in told for games in rounds]]
        self.assertEqual(len({id(thing) for thing in lists}), len(lists))

    def test_an_order_is_neither_changed_nor_kept(self):
        season = Season(4)
        order = [2, 0, 1]
        season.move(order)
        self.assertEqual(order, [2, 0, 1])
        order.reverse()
        order.append(7)
        self.stands(season, 4, moved(4, once_round(4), [2, 0, 1]), 1)

    def test_two_seasons_do_not_touch_one_another(self):
        one, other = Season(6), Season(6)
        for name, _, arguments in DEEDS:
            getattr(one, name)(*arguments)
        self.stands(other, 6, once_round(6), 0)
        self.assertRaises(NothingDone, other.back)
        other.leave(0)
        self.assertEqual(one.many(), len(DEEDS))
        for _ in DEEDS:
            one.back()
        self.stands(one, 6, once_round(6), 0)
        self.stands(other, 6, without(6, once_round(6), 0), 1)

    def test_seasons_of_other_counts_do_not_touch_one_another(self):
        seasons = [Season(clubs) for clubs in COUNTS]
        for season in seasons:
            season.turn(0, 1)
        for clubs, season in zip(COUNTS, seasons, strict=True):
            with self.subTest(clubs=clubs):
                self.stands(season, clubs, turned(clubs, once_round(clubs), 0, 1), 1)

    def test_made_rounds_are_not_touched(self):
        before = own(once_round(6))
        season = Season(6)
        season.leave(0)
        season.turn(1, 2)
        self.spoil(season.rounds())
        self.assertEqual(once_round(6), before)
        self.stands(Season(6), 6, before, 0)


if __name__ == "__main__":
    unittest.main()
