"""The names and arguments of the interface, and where they are defined."""
import inspect
import unittest

from roundlist import looking, making

LOOKING = {
    "need_clubs": ["thing"],
    "need_rounds": ["clubs", "thing"],
    "club_row": ["clubs", "rounds", "club"],
    "breaks": ["clubs", "rounds", "club"],
    "meetings": ["clubs", "rounds", "one", "other"],
    "meet_once": ["clubs", "rounds"],
    "meet_twice": ["clubs", "rounds"],
}
MAKING = {"once_round": ["clubs"], "twice_round": ["clubs"], "least_breaks": ["clubs"]}


class InterfaceTest(unittest.TestCase):
    def check(self, module, functions):
        for name, arguments in functions.items():
            with self.subTest(name=name):
                function = getattr(module, name)
                self.assertTrue(inspect.isfunction(function))
                self.assertEqual(function.__module__, module.__name__)
                self.assertEqual(list(inspect.signature(function).parameters), arguments)

    def test_looking(self):
        self.check(looking, LOOKING)

    def test_making(self):
        self.check(making, MAKING)

    def test_arguments_may_be_told_by_name(self):
        self.assertIsNone(looking.need_rounds(clubs=2, thing=[]))
        self.assertEqual(looking.meetings(clubs=2, rounds=[[(0, 1)]], one=1, other=0), [(0, 0)])
        self.assertEqual(making.least_breaks(clubs=4), 2)


if __name__ == "__main__":
    unittest.main()
