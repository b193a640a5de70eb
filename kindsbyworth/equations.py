"""Open names, what solves them, and the equations that do."""

from kindsbyworth.putting import shifted
from kindsbyworth.sameness import are_same
from kindsbyworth.terms import bodies_above, is_open, parts_of, with_ats

# Open names are ats of names further out than any other: so a term of them means the same
# wherever it stands, however many come behind.
FURTHEST = 1000000000


def name_term(number):
    """The term of the open name with this number."""
    return ("at", FURTHEST - number)


def number_of(k, bodies):
    """The number of the open name that an at beneath so many bodies is; of another at no name's."""
    return FURTHEST - (k - bodies)


def names_in(term, solved):
    """The numbers of those open names of a dict that stand in the term."""
    found = []
    left = [(term, 0)]
    while left:
        here, bodies = left.pop()
        if here[0] == "at":
            if number_of(here[1], bodies) in solved:
                found.append(number_of(here[1], bodies))
            continue
        for at, part in enumerate(parts_of(here)):
            left.append((part, bodies + bodies_above(here, at)))
    return found


def with_solved(term, solved):
    """The term with the terms of a dict put in for the open names that have these numbers there."""
    def replaced(k, bodies):
        number = number_of(k, bodies)
        return shifted(solved[number], bodies) if number in solved else ("at", k)

    return with_ats(term, replaced)


class Names:
    """Open names in order, each (mark, kind, may it be solved), what is solved, and the equations left.

    A name is solved by a term of names that weren't solved then; what they
    were solved by later is put in only when it is asked for.
    """

    def __init__(self, bench, prefers_gone):
        self.bench = bench
        self.prefers_gone = prefers_gone
        self.told = []
        self.solved = {}
        self.wholes = {}
        self.left = []
        self.is_never = False

    def twin(self):
        """Names that are as these are, and go on by themselves."""
        made = Names(self.bench, self.prefers_gone)
        made.told = list(self.told)
        made.solved = dict(self.solved)
        made.left = list(self.left)
        return made

    def named(self, mark, kind, may):
        """The term of a new open name."""
        self.told.append((mark, kind, may))
        return name_term(len(self.told) - 1)

    def put(self, term):
        """The term with what is solved put in."""
        numbers = names_in(term, self.solved)
        if not numbers:
            return term
        self._make_whole(numbers)
        return with_solved(term, self.wholes)

    def _make_whole(self, numbers):
        """Put all that is solved in what these names are solved by, the inner ones first."""
        left = [number for number in numbers if number not in self.wholes]
        while left:
            told = self.solved[left[-1]]
            inner = [number for number in names_in(told, self.solved) if number not in self.wholes]
            if inner:
                left.extend(inner)
            else:
                self.wholes[left.pop()] = with_solved(told, self.wholes)

    def kind(self, number):
        """The kind of an open name, what is solved put in."""
        return self.put(self.told[number][1])

    def unsolved(self):
        """The numbers of the names that aren't solved."""
        return [number for number in range(len(self.told)) if number not in self.solved]

    def solve(self, number, term):
        """Let the name be solved by a term in which no solved name stands."""
        self.solved[number] = term
        self.wholes = {}

    def go_through(self, equations):
        """Add equations, go through all till none of those left moves; the moves that were done."""
        self.left = self.left + equations
        moves = []
        idle = 0
        while equations and idle < len(self.left) and not self.is_never:
            idle = 0 if self._moved(moves) else idle + 1
        return tuple(moves)

    def _moved(self, moves):
        """Take the first equation, and tell whether it moved."""
        one, other = self.left[0]
        one, other = self._walked(self.put(one), self.put(other), moves)
        del self.left[0]
        if are_same(one, other):
            moves.append(("same",))
            return True
        side = self._solving(one, other)
        if side is not None:
            by, name = (other, one) if side == 0 else (one, other)
            self.solve(number_of(name[1], 0), by)
            moves.extend([("solve", side), ("same",)])
            return True
        if one[0] == "shape" and other[0] == "shape" and one[1] == other[1]:
            self.is_never = one[2] != other[2]
            if not self.is_never:
                self.left = list(zip(one[3], other[3])) + self.left
            moves.append(("never",) if self.is_never else ("peel",))
            return True
        self.left.append((one, other))
        moves.append(("later",))
        return False

    def _walked(self, one, other, moves):
        """Both sides as they are if they are the same, else their outcomes."""
        if are_same(one, other):
            return one, other
        way, first = self.bench.outcome(one)
        further, second = self.bench.outcome(other)
        if way or further:
            moves.append(("walk", way, further))
        return first, second

    def _solving(self, one, other):
        """The side that is to be solved by the other one, None where neither may be."""
        sides = [side for side, (here, there) in enumerate([(one, other), (other, one)]) if self._may(here, there)]
        if len(sides) < 2:
            return sides[0] if sides else None
        numbers = [number_of(one[1], 0), number_of(other[1], 0)]
        gone = [side for side in sides if self.told[numbers[side]][0] == "gone"]
        if self.prefers_gone and len(gone) == 1:
            return gone[0]
        return 0 if numbers[0] > numbers[1] else 1

    def _may(self, here, there):
        """Whether it is a name that may be solved, in which the other one isn't open."""
        return here[0] == "at" and self.told[number_of(here[1], 0)][2] and not is_open(there, here[1])
