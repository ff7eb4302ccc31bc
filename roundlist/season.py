"""A season: clubs and their rounds, put otherwise by deeds that may be taken back."""
from roundlist.changing import exchanged, moved, turned, without
from roundlist.errors import NothingDone
from roundlist.making import once_round


class Season:
    """Rounds of so many clubs, at first once round."""

    def __init__(self, clubs):
        """Begin with a list once round."""
        first = once_round(clubs)
        self._clubs = clubs
        # The first rounds, and behind them those that each standing deed has led to. Games that
        # were left out can't be got back from the rounds without them, so all are kept.
        self._stages = [first]

    def clubs(self):
        """Tell how many clubs there are."""
        return self._clubs

    def rounds(self):
        """Tell the rounds as they are now."""
        return [list(games) for games in self._stages[-1]]

    def move(self, order):
        """Put the rounds in another order."""
        self._stages.append(moved(self._clubs, self._stages[-1], order))

    def turn(self, one, other):
        """Turn all games of two clubs."""
        self._stages.append(turned(self._clubs, self._stages[-1], one, other))

    def exchange(self, one, other):
        """Put two clubs in each other's place."""
        self._stages.append(exchanged(self._clubs, self._stages[-1], one, other))

    def leave(self, club):
        """Leave out the games of a club."""
        self._stages.append(without(self._clubs, self._stages[-1], club))

    def back(self):
        """Take back the last deed that stands."""
        if self.many() == 0:
            raise NothingDone("no deed stands")
        self._stages.pop()

    def many(self):
        """Tell how many deeds stand."""
        return len(self._stages) - 1
