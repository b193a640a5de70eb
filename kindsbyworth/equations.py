"""Equations of open names, and how they solve these."""

from kindsbyworth.opennames import OpenNames, number_of
from kindsbyworth.sameness import are_same_terms


class Names(OpenNames):
    """Open names, the equations left of them, and whether these come to never."""

    def __init__(self, bench, prefers_gone):
        self.set_up()
        self.bench = bench
        self.prefers_gone = prefers_gone
        self.is_never = False

    def twin(self):
        """Names that are as these are, and go on by themselves."""
        made = Names(self.bench, self.prefers_gone)
        made.copy_of(self)
        return made

    def go_through(self, equations):
        """Add equations, go through all till none of those left moves; the moves that were done."""
        self.left = self.left + equations
        moves = []
        idle = 0
        while equations and idle < len(self.left) and not self.is_never:
            idle = 0 if self._moved(moves) else idle + 1
        return tuple(moves)

    def _moved(self, moves):
        """Take the first equation, and tell whether it moved."""
        one, other = self.left[0]
        one, other = self._walked(self.put(one), self.put(other), moves)
        del self.left[0]
        if are_same_terms(one, other):
            moves.append(("same",))
            return True
        side = self._solving(one, other)
        if side is not None:
            by, name = (other, one) if side == 0 else (one, other)
            self.solve(number_of(name[1], 0), by)
            moves.extend([("solve", side), ("same",)])
            return True
        if one[0] == "shape" and other[0] == "shape" and one[1] == other[1]:
            self.is_never = one[2] != other[2]
            if not self.is_never:
                self.left = list(zip(one[3], other[3])) + self.left
            moves.append(("never",) if self.is_never else ("peel",))
            return True
        self.left.append((one, other))
        moves.append(("later",))
        return False

    def _walked(self, one, other, moves):
        """Both sides as they are if they are the same, else their outcomes."""
        if are_same_terms(one, other):
            return one, other
        way, first = self.bench.outcome(one)
        further, second = self.bench.outcome(other)
        if way or further:
            moves.append(("walk", way, further))
        return first, second

    def _solving(self, one, other):
        """The side that is to be solved by the other one, None where neither may be."""
        sides = [side for side, (here, there) in enumerate([(one, other), (other, one)]) if self.may_solve(here, there)]
        if len(sides) < 2:
            return sides[0] if sides else None
        numbers = [number_of(one[1], 0), number_of(other[1], 0)]
        gone = [side for side in sides if self.told[numbers[side]][0] == "gone"]
        if self.prefers_gone and len(gone) == 1:
            return gone[0]
        return 0 if numbers[0] > numbers[1] else 1
