"""The names and arguments of the interface, and where they are defined."""
import inspect
import unittest

from roundlist import changing, looking, making, notes, season

LOOKING = {
    "need_clubs": ["thing"],
    "need_rounds": ["clubs", "thing"],
    "club_row": ["clubs", "rounds", "club"],
    "breaks": ["clubs", "rounds", "club"],
    "meetings": ["clubs", "rounds", "one", "other"],
    "meet_once": ["clubs", "rounds"],
    "meet_twice": ["clubs", "rounds"],
}
MAKING = {"once_round": ["clubs"], "twice_round": ["clubs"], "least_breaks": ["clubs"]}
CHANGING = {
    "moved": ["clubs", "rounds", "order"],
    "turned": ["clubs", "rounds", "one", "other"],
    "exchanged": ["clubs", "rounds", "one", "other"],
    "without": ["clubs", "rounds", "club"],
}
NOTES = {"rounds_text": ["clubs", "rounds"], "rounds_of": ["clubs", "text"]}
SEASON = {
    "__init__": ["self", "clubs"],
    "clubs": ["self"],
    "rounds": ["self"],
    "move": ["self", "order"],
    "turn": ["self", "one", "other"],
    "exchange": ["self", "one", "other"],
    "leave": ["self", "club"],
    "back": ["self"],
    "many": ["self"],
}


class InterfaceTest(unittest.TestCase):
    def check(self, module, functions):
        for name, arguments in functions.items():
            with self.subTest(name=name):
                function = getattr(module, name)
                self.assertTrue(inspect.isfunction(function))
                self.assertEqual(function.__module__, module.__name__)
                self.assertEqual(list(inspect.signature(function).parameters), arguments)

    def test_looking(self):
        self.check(looking, LOOKING)

    def test_making(self):
        self.check(making, MAKING)

    def test_changing(self):
        self.check(changing, CHANGING)

    def test_notes(self):
        self.check(notes, NOTES)

    def test_each_method_of_season_is_defined_in_the_class_itself(self):
        self.assertEqual(season.Season.__module__, "roundlist.season")
        for name, arguments in SEASON.items():
            with self.subTest(name=name):
                method = vars(season.Season)[name]
                self.assertTrue(inspect.isfunction(method))
                self.assertEqual(method.__module__, "roundlist.season")
                self.assertEqual(method.__qualname__, f"Season.{name}")
                self.assertEqual(list(inspect.signature(method).parameters), arguments)

    def test_arguments_may_be_told_by_name(self):
        self.assertIsNone(looking.need_rounds(clubs=2, thing=[]))
        self.assertEqual(looking.meetings(clubs=2, rounds=[[(0, 1)]], one=1, other=0), [(0, 0)])
        self.assertEqual(making.least_breaks(clubs=4), 2)
        self.assertEqual(changing.moved(clubs=2, rounds=[[], [(0, 1)]], order=[1, 0]), [[(0, 1)], []])
        self.assertEqual(changing.turned(clubs=2, rounds=[[(0, 1)]], one=1, other=0), [[(1, 0)]])
        self.assertEqual(changing.exchanged(clubs=3, rounds=[[(0, 1)]], one=1, other=2), [[(0, 2)]])
        self.assertEqual(changing.without(clubs=2, rounds=[[(0, 1)]], club=1), [[]])
        self.assertEqual(notes.rounds_text(clubs=2, rounds=[[(0, 1)]]), "0-1")
        self.assertEqual(notes.rounds_of(clubs=2, text="0-1"), [[(0, 1)]])


if __name__ == "__main__":
    unittest.main()
