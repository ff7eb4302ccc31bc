"""Nothing handed in is changed or kept; what is told is the asker's own and the same each time."""
import unittest

from roundlist.changing import exchanged, moved, turned, without
from roundlist.errors import RoundError
from roundlist.looking import breaks, club_row, meet_once, meet_twice, meetings, need_rounds
from roundlist.making import least_breaks, once_round, twice_round
from roundlist.notes import rounds_of, rounds_text
from tests.helpers import COUNTS, FOUR, ROUNDS_FUNCTIONS, own

# Neither the rounds' games rise nor do the games of each round.
UNSORTED = [[(3, 2), (1, 0)], [], [(2, 3), (0, 1)]]
REFUSED = [[(3, 2), (1, 0)], [(2, 0), (1, 3)], [(1, 0)]]

# What puts rounds otherwise, and what else it is handed for four clubs and three rounds; some of
# it changes no game.
CHANGES = [
    (moved, ([2, 0, 1],)), (moved, ([0, 1, 2],)), (turned, (0, 1)), (turned, (0, 3)), (exchanged, (1, 2)),
    (without, (0,)),
]


class HandedInTest(unittest.TestCase):
    def check_untouched(self, rounds, ask):
        before = own(rounds)
        lists = list(rounds)
        ask(rounds)
        self.assertEqual(rounds, before)
        self.assertTrue(all(one is other for one, other in zip(rounds, lists, strict=True)))

    def test_rounds_stay_as_they_were(self):
        for function, rest in ROUNDS_FUNCTIONS:
            with self.subTest(function=function.__name__):
                self.check_untouched(own(UNSORTED), lambda rounds: function(4, rounds, *rest[1:]))

    def test_refused_rounds_stay_as_they_were(self):
        for function, rest in ROUNDS_FUNCTIONS:
            with self.subTest(function=function.__name__):
                def ask(rounds):
                    with self.assertRaises(RoundError):
                        function(4, rounds, *rest[1:])
                self.check_untouched(own(REFUSED), ask)

    def test_rounds_stay_as_they_were_where_what_is_behind_them_is_refused(self):
        for ask in (
            lambda rounds: club_row(4, rounds, 4),
            lambda rounds: breaks(4, rounds, None),
            lambda rounds: meetings(4, rounds, 0, 0),
            lambda rounds: moved(4, rounds, [0, 1, 3]),
            lambda rounds: turned(4, rounds, 0, 0),
            lambda rounds: exchanged(4, rounds, 1, 4),
            lambda rounds: without(4, rounds, True),
        ):
            def refused(rounds):
                with self.assertRaises(RoundError):
                    ask(rounds)
            self.check_untouched(own(UNSORTED), refused)

    def test_an_order_stays_as_it_was(self):
        for order in ([2, 0, 1], [0, 1, 2], [0, 0, 2], [2, 1], [1, None, 0]):
            before = own(order)
            try:
                moved(4, own(UNSORTED), order)
            except RoundError:
                pass
            self.assertEqual(order, before)

    def test_nothing_handed_in_is_kept(self):
        rounds = [[(0, 1)]]
        self.assertEqual(club_row(2, rounds, 0), [1])
        self.assertEqual(meetings(2, rounds, 0, 1), [(0, 0)])
        self.assertIs(meet_once(2, rounds), True)
        rounds.append([(1, 0)])
        self.assertEqual(club_row(2, rounds, 0), [1, 0])
        self.assertEqual(meetings(2, rounds, 0, 1), [(0, 0), (1, 1)])
        self.assertIs(meet_once(2, rounds), False)
        self.assertIs(meet_twice(2, rounds), True)
        rounds[1][0] = (0, 1)
        with self.assertRaises(RoundError):
            need_rounds(2, rounds)

    def test_rounds_that_were_made_can_be_handed_in_again(self):
        for clubs in COUNTS:
            with self.subTest(clubs=clubs):
                self.check_untouched(twice_round(clubs), lambda rounds: meet_twice(clubs, rounds))


class ToldTest(unittest.TestCase):
    def check_own(self, ask):
        """What is told is spoilt by the asker, and told the same again."""
        told = ask()
        before = own(told)
        for thing in told:
            if isinstance(thing, list):
                thing.append((0, 0))
                thing.reverse()
        told.append(None)
        told.reverse()
        again = ask()
        self.assertEqual(again, before)
        self.assertIsNot(again, told)

    def test_made_rounds(self):
        for clubs in COUNTS:
            with self.subTest(clubs=clubs):
                self.check_own(lambda: once_round(clubs))
                self.check_own(lambda: twice_round(clubs))

    def test_no_two_made_rounds_are_one_list(self):
        for clubs in COUNTS:
            with self.subTest(clubs=clubs):
                rounds = [*once_round(clubs), *twice_round(clubs), *once_round(clubs), *twice_round(clubs)]
                self.assertEqual(len({id(games) for games in rounds}), len(rounds))

    def test_one_list_does_not_spoil_the_other(self):
        first = once_round(6)
        before = own(twice_round(6))
        for games in first:
            games.clear()
        self.assertEqual(twice_round(6), before)
        self.assertEqual(once_round(6), before[:5])

    def test_rows_breaks_and_meetings(self):
        rounds = [[(0, 1)], [(0, 2)], [(1, 0)]]
        self.check_own(lambda: club_row(3, rounds, 0))
        self.check_own(lambda: breaks(3, rounds, 0))
        self.check_own(lambda: meetings(3, rounds, 0, 1))

    def test_rounds_put_otherwise(self):
        for function, rest in CHANGES:
            with self.subTest(function=function.__name__):
                self.check_own(lambda: function(4, own(UNSORTED), *rest))

    def test_rounds_put_otherwise_and_those_handed_in_do_not_touch_one_another(self):
        for function, rest in CHANGES:
            for handed in (UNSORTED, FOUR, [[], [], []]):
                with self.subTest(function=function.__name__, handed=handed):
                    rounds = own(handed)
                    told = function(4, rounds, *rest)
                    expected = own(told)
                    lists = [rounds, *rounds, told, *told]
                    self.assertEqual(len({id(thing) for thing in lists}), len(lists))
                    for games in told:
                        games.append(None)
                    told.clear()
                    self.assertEqual(rounds, handed)
                    told = function(4, rounds, *rest)
                    for games in rounds:
                        games.append(None)
                    rounds.clear()
                    self.assertEqual(told, expected)

    def test_rounds_that_were_read(self):
        self.check_own(lambda: rounds_of(4, "2-3 0-1\n.\n3-2"))

    def test_one_list_handed_in_for_several_rounds_is_told_as_several(self):
        for function, rest in CHANGES:
            with self.subTest(function=function.__name__):
                told = function(4, [[]] * 3, *rest)
                self.assertEqual(told, [[], [], []])
                self.assertEqual(len({id(games) for games in told}), 3)

    def test_the_same_text_each_time(self):
        rounds = own(UNSORTED)
        self.assertEqual(rounds_text(4, rounds), "1-0 3-2\n.\n0-1 2-3")
        self.assertEqual(rounds_text(4, rounds), "1-0 3-2\n.\n0-1 2-3")

    def test_the_same_each_time(self):
        for clubs in COUNTS:
            with self.subTest(clubs=clubs):
                self.assertEqual(once_round(clubs), once_round(clubs))
                self.assertEqual(twice_round(clubs), twice_round(clubs))
                self.assertEqual(least_breaks(clubs), least_breaks(clubs))


if __name__ == "__main__":
    unittest.main()
