"""Equations of open names moved as papers tell, one move behind the other."""

from kindsbyworth.opennames import OpenNames, number_of
from kindsbyworth.reading import is_told
from kindsbyworth.sameness import are_same_terms
from kindsbyworth.terms import is_count

PLAIN_MOVES = ("same", "peel", "later")


def is_side(thing):
    """Whether it is the number of a side of an equation."""
    return is_count(thing) and thing < 2


def are_shapes_of_one(one, other):
    """Whether both are shapes of one family."""
    return one[0] == "shape" and other[0] == "shape" and one[1] == other[1]


class MovedNames(OpenNames):
    """Open names and the equations left of them; these move just as they are told to."""

    def __init__(self, reader):
        self.set_up()
        self.reader = reader

    def twin(self):
        """Names that are as these are, and go on by themselves."""
        made = MovedNames(self.reader)
        made.copy_of(self)
        return made

    def moved(self, equations, moves):
        """How these moves, of anything, go with equations behind those left: `done`, or `never` where
        they end so; None where one doesn't go."""
        self.left = self.left + equations
        if not isinstance(moves, tuple):
            return None
        for at, move in enumerate(moves):
            if not isinstance(move, tuple) or not move or not self.left:
                return None
            one, other = self.put(self.left[0][0]), self.put(self.left[0][1])
            if is_told(move, 1) and move[0] == "never":
                is_last = at == len(moves) - 1
                return "never" if is_last and are_shapes_of_one(one, other) and one[2] != other[2] else None
            if not self._goes(move, one, other):
                return None
        return "done"

    def _goes(self, move, one, other):
        """Do a move that isn't never at the first equation, and tell whether it goes."""
        if is_told(move, 1):
            return move[0] in PLAIN_MOVES and self._goes_plain(move[0], one, other)
        if is_told(move, 2) and move[0] == "solve" and is_side(move[1]):
            return self._solves(one, other) if move[1] == 0 else self._solves(other, one)
        if not is_told(move, 3) or move[0] != "walk":
            return False
        first, second = self.reader.walked(one, move[1]), self.reader.walked(other, move[2])
        if first is None or second is None:
            return False
        self.left[0] = (first, second)
        return True

    def _goes_plain(self, word, one, other):
        """Do a move that is told by its word alone."""
        del self.left[0]
        if word == "same":
            return are_same_terms(one, other)
        if word == "later":
            self.left.append((one, other))
            return True
        if not are_shapes_of_one(one, other) or one[2] != other[2] or len(one[3]) != len(other[3]):
            return False
        self.left = list(zip(one[3], other[3])) + self.left
        return True

    def _solves(self, name, term):
        """Solve a name by a term, if it may be."""
        if not self.may_solve(name, term):
            return False
        self.solve(number_of(name[1], 0), term)
        return True
