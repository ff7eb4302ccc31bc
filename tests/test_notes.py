"""Rounds written as a text and read from one."""
import itertools
import unittest

from roundlist.errors import BadClubs, BadText
from roundlist.looking import need_rounds
from roundlist.making import once_round, twice_round
from roundlist.notes import rounds_of, rounds_text
from tests.helpers import COUNTS, FOUR, HUGE, Hostile, not_clubs, odd_things, own

FOUR_TEXT = "0-3 1-2\n0-2 3-1\n1-0 3-2"


class RoundsTextTest(unittest.TestCase):
    def written(self, clubs, rounds, expected):
        text = rounds_text(clubs, rounds)
        self.assertIs(type(text), str)
        self.assertEqual(text, expected)

    def test_no_rounds(self):
        for clubs in COUNTS:
            with self.subTest(clubs=clubs):
                self.written(clubs, [], "")

    def test_rounds_without_games(self):
        self.written(2, [[]], ".")
        self.written(2, [[], []], ".\n.")
        self.written(2, [[]] * 40, "\n".join("." * 40))
        self.written(4, [[], [(2, 0)], [], [(0, 1), (2, 3)], []], ".\n2-0\n.\n0-1 2-3\n.")

    def test_rounds_with_games(self):
        self.written(2, [[(1, 0)]], "1-0")
        self.written(4, own(FOUR), FOUR_TEXT)

    def test_numbers_of_one_and_two_figures(self):
        self.written(20, [[(0, 19), (9, 10), (11, 2)], [(10, 0)]], "0-19 9-10 11-2\n10-0")

    def test_numbers_rise_and_not_their_figures(self):
        self.written(20, [[(10, 3), (2, 11), (1, 19)]], "1-19 2-11 10-3")

    def test_games_in_any_order(self):
        games = [(0, 5), (3, 1), (4, 12), (10, 2)]
        for order in itertools.permutations(games):
            with self.subTest(order=order):
                self.written(13, [list(order)], "0-5 3-1 4-12 10-2")
        self.written(4, [games[::-1] for games in FOUR], FOUR_TEXT)

    def test_made_rounds(self):
        for clubs in COUNTS:
            with self.subTest(clubs=clubs):
                rounds = twice_round(clubs)
                lines = [" ".join(f"{home}-{away}" for home, away in games) for games in rounds]
                self.written(clubs, rounds, "\n".join(lines))


class ReadTest(unittest.TestCase):
    def read(self, clubs, text, expected):
        rounds = rounds_of(clubs, text)
        self.assertEqual(rounds, expected)
        self.assertIs(type(rounds), list)
        self.assertEqual({type(games) for games in rounds} - {list}, set())
        games = [game for games in rounds for game in games]
        self.assertEqual({type(game) for game in games} - {tuple}, set())
        self.assertEqual({type(club) for game in games for club in game} - {int}, set())
        self.assertIsNone(need_rounds(clubs, rounds))

    def test_no_rounds(self):
        for clubs in COUNTS:
            with self.subTest(clubs=clubs):
                self.read(clubs, "", [])

    def test_rounds_without_games(self):
        self.read(2, ".", [[]])
        self.read(2, ".\n.", [[], []])
        self.read(4, ".\n2-0\n.\n0-1 2-3\n.", [[], [(2, 0)], [], [(0, 1), (2, 3)], []])

    def test_rounds_with_games(self):
        self.read(2, "1-0", [[(1, 0)]])
        self.read(2, "0-1\n1-0", [[(0, 1)], [(1, 0)]])
        self.read(4, FOUR_TEXT, FOUR)
        self.read(20, "0-19 9-10 11-2\n10-0", [[(0, 19), (9, 10), (11, 2)], [(10, 0)]])

    def test_games_in_any_order_are_told_rising(self):
        for words in itertools.permutations(["0-5", "3-1", "4-12", "10-2"]):
            with self.subTest(words=words):
                self.read(13, " ".join(words), [[(0, 5), (3, 1), (4, 12), (10, 2)]])
        self.read(4, "1-2 0-3\n3-1 0-2\n3-2 1-0", FOUR)

    def test_rounds_stay_in_their_order(self):
        self.read(4, "3-2 1-0\n.\n0-2", [[(1, 0), (3, 2)], [], [(0, 2)]])

    def test_first_and_last_club(self):
        for clubs in COUNTS:
            with self.subTest(clubs=clubs):
                self.read(clubs, f"0-{clubs - 1}\n{clubs - 1}-0", [[(0, clubs - 1)], [(clubs - 1, 0)]])

    def test_what_is_written_is_read_again(self):
        some = [[], [[]], [[], []], [[]] * 40, [[(1, 0)], []], [[], [(0, 1)], [(1, 0)]]]
        for clubs in COUNTS:
            for rounds in [*some, once_round(clubs), twice_round(clubs)]:
                with self.subTest(clubs=clubs, rounds=rounds):
                    self.read(clubs, rounds_text(clubs, own(rounds)), rounds)

    def test_every_text_of_two_clubs_is_written_again(self):
        lines = [".", "0-1", "1-0"]
        for many in range(1, 5):
            for some in itertools.product(lines, repeat=many):
                text = "\n".join(some)
                good = some.count("0-1") < 2 and some.count("1-0") < 2
                with self.subTest(text=text):
                    if good:
                        self.assertEqual(rounds_text(2, rounds_of(2, text)), text)
                    else:
                        self.assertRaises(BadText, rounds_of, 2, text)

    def test_40_lines(self):
        self.read(2, "\n".join(["."] * 40), [[]] * 40)
        games = [(home, (home + step) % 20) for step in (1, 2) for home in range(20)]
        self.read(20, "\n".join(f"{home}-{away}" for home, away in games), [[game] for game in games])

    def test_what_is_told_is_the_askers_own(self):
        for text in (FOUR_TEXT, ".\n.\n."):
            rounds = rounds_of(4, text)
            before = own(rounds)
            for games in rounds:
                games.append((2, 1))
            rounds.pop()
            self.assertEqual(rounds_of(4, text), before)


class BadTextTest(unittest.TestCase):
    def bad(self, clubs, *texts):
        for text in texts:
            with self.subTest(clubs=clubs, text=text[:60]):
                with self.assertRaises(BadText) as caught:
                    rounds_of(clubs, text)
                self.assertIs(type(caught.exception), BadText)

    def test_41_lines(self):
        self.bad(2, "\n".join(["."] * 41), "\n".join(["."] * 4000))
        games = [f"{home}-{(home + step) % 20}" for step in (1, 2, 3) for home in range(20)]
        self.bad(20, "\n".join(games[:41]))

    def test_a_nought_ahead(self):
        self.bad(20, "00-1", "1-00", "01-2", "2-01", "0-01", "010-2", "2-010", "0-1 2-03", ".\n03-4")

    def test_a_sign(self):
        self.bad(4, "+0-1", "0-+1", "-0-1", "0--1", "-1-0", "1--0", "+1-+2", "~0-1", "0_1-2", "1_-2")

    def test_a_point_or_a_comma_in_a_number(self):
        self.bad(4, "0.0-1", "0-1.", ".0-1", "1.-0", "0,1", "0-1,2-3", "0-1;2-3")

    def test_two_blanks(self):
        self.bad(4, "0-1  2-3", "0-1   2-3", ".\n0-1  2-3\n.")

    def test_a_blank_at_the_start_or_end(self):
        self.bad(4, " 0-1", "0-1 ", " ", "  ", " .", ". ", "0-1 \n2-3", "0-1\n 2-3", "0-1 2-3 ", "\n ", " \n", ".\n ")

    def test_a_blank_within_a_game(self):
        self.bad(4, "0 -1", "0- 1", "0 - 1", "0 1", "0-1 2 -3")

    def test_a_line_end_at_the_start_or_end(self):
        self.bad(4, "\n", "\n\n", "\n.", ".\n", "\n0-1", "0-1\n", "0-1\n2-3\n", "\n0-1\n")

    def test_an_empty_line(self):
        self.bad(4, "0-1\n\n2-3", ".\n\n.", "0-1\n \n2-3")

    def test_a_tab(self):
        self.bad(4, "\t", "0-1\t2-3", "\t0-1", "0-1\t", "0-1 \t2-3", "0\t-1", "0-\t1", ".\t", "\t.", "0-1\n\t")

    def test_other_line_ends(self):
        self.bad(4, "0-1\r\n2-3", "0-1\r2-3", "\r", ".\r", "0-1\r")

    def test_a_missing_line_sign(self):
        self.bad(4, "0", "01", "0 1", "0-1 2", "2 0-1", "0-", "-1", "-", "0-1 -", "0+1", "0:1", "0=1", "0/1")

    def test_a_second_line_sign(self):
        self.bad(4, "0-1-2", "0--1", "0-1-", "-0-1", "0-1-2-3", "0-1--2-3", "--", "---", "0-1 2--3")

    def test_a_point_beside_a_game(self):
        self.bad(4, "0-1 .", ". 0-1", ".0-1", "0-1.", "0-1 . 2-3")

    def test_more_than_one_point_in_a_line(self):
        self.bad(4, "..", ". .", "...", ".\n..", ".-.", ".-0", "0-.")

    def test_other_words(self):
        self.bad(4, "a", "a-b", "0-a", "a-0", "0-1 a", "0x0-1", "1e0-2", "0-1!")
        self.bad(4, "None", "[]", "()", "(0, 1)", "[(0, 1)]", "[[(0, 1)]]")

    def test_a_club_that_is_not_there(self):
        for clubs in COUNTS:
            self.bad(clubs, f"0-{clubs}", f"{clubs}-0", f".\n1-{clubs}", f"0-1\n{clubs + 1}-0", "0-20", "20-0", "0-100")

    def test_one_against_itself(self):
        for clubs in COUNTS:
            self.bad(clubs, *[f"{club}-{club}" for club in range(clubs)], "0-1\n1-1")

    def test_one_twice_in_one_round(self):
        self.bad(4, "0-1 0-2", "0-1 2-0", "0-1 1-2", "0-1 3-1", "0-1 1-0", ".\n2-3 0-1 3-0")

    def test_the_same_game_twice(self):
        self.bad(4, "0-1 0-1", "0-1 2-3 0-1", "0-1\n0-1", "2-3 0-1\n1-0\n.\n3-2 0-1")

    def test_very_long_numbers(self):
        long = "1" * 5000
        self.bad(4, long, f"{long}-0", f"0-{long}", f"{long}-{long}", f".\n0-1 2-{long}", "0-1" * 5000)
        self.bad(4, "0" * 5000 + "-1", "0-" + "0" * 5000, "0-" + "0" * 5000 + "1")
        self.bad(4, "-" * 100000, " " * 100000, "\n" * 100000, "." * 100000)

    def test_any_text_of_few_signs(self):
        good = {"", ".", ".\n.", "0-1", "1-0"}
        for many in range(5):
            for signs in itertools.product("01-. \n\t+", repeat=many):
                text = "".join(signs)
                if text in good:
                    self.assertEqual(rounds_text(2, rounds_of(2, text)), text)
                else:
                    self.assertRaises(BadText, rounds_of, 2, text)

    def test_things_that_are_no_texts(self):
        others = [thing for thing in odd_things() if type(thing) is not str]
        others += [0, 1, HUGE, [], [[(0, 1)]], ["0-1"], ("0-1",), {"0-1": 1}, b"", b"0-1", bytearray(b".")]
        for thing in others:
            with self.subTest(kind=type(thing).__name__):
                self.assertRaises(BadText, rounds_of, 4, thing)

    def test_odd_texts(self):
        self.bad(4, *[thing for thing in odd_things() if type(thing) is str and thing])


class OrderTest(unittest.TestCase):
    def test_clubs_are_looked_at_ahead_of_the_text(self):
        for clubs in not_clubs():
            for text in ["0-1", "", "x", None, 0, Hostile()]:
                with self.subTest(clubs=type(clubs).__name__, text=type(text).__name__):
                    self.assertRaises(BadClubs, rounds_of, clubs, text)


if __name__ == "__main__":
    unittest.main()
