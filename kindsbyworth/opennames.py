"""Open names, and what solves them."""

from kindsbyworth.putting import shifted
from kindsbyworth.terms import bodies_above, is_open, parts_of, with_ats

# Open names are ats of names further out than any other: so a term of them means the same
# wherever it stands, however many come behind.
FURTHEST = 1000000000


def name_term(number):
    """The term of the open name with this number."""
    return ("at", FURTHEST - number)


def number_of(k, bodies):
    """The number of the open name that an at beneath so many bodies is; of another at no name's."""
    return FURTHEST - (k - bodies)


def names_in(term, solved):
    """The numbers of those open names of a dict that stand in the term."""
    found = []
    left = [(term, 0)]
    while left:
        here, bodies = left.pop()
        if here[0] == "at":
            if number_of(here[1], bodies) in solved:
                found.append(number_of(here[1], bodies))
            continue
        for at, part in enumerate(parts_of(here)):
            left.append((part, bodies + bodies_above(here, at)))
    return found


def with_solved(term, solved):
    """The term with the terms of a dict put in for the open names that have these numbers there."""
    def replaced(k, bodies):
        number = number_of(k, bodies)
        return shifted(solved[number], bodies) if number in solved else ("at", k)

    return with_ats(term, replaced)


class OpenNames:
    """Open names in order, each (mark, kind, may it be solved), and what is solved.

    A name is solved by a term of names that weren't solved then; what they
    were solved by later is put in only when it is asked for.
    """

    def set_up(self):
        """Begin without names; each kind of such names does so when it is made."""
        self.told = []
        self.solved = {}
        self.wholes = {}
        self.left = []

    def copy_of(self, other):
        """Be as other names are, and go on by themselves."""
        self.told = list(other.told)
        self.solved = dict(other.solved)
        self.left = list(other.left)

    def named(self, mark, kind, may):
        """The term of a new open name."""
        self.told.append((mark, kind, may))
        return name_term(len(self.told) - 1)

    def put(self, term):
        """The term with what is solved put in."""
        numbers = names_in(term, self.solved)
        if not numbers:
            return term
        self._make_whole(numbers)
        return with_solved(term, self.wholes)

    def _make_whole(self, numbers):
        """Put all that is solved in what these names are solved by, the inner ones first."""
        left = [number for number in numbers if number not in self.wholes]
        while left:
            told = self.solved[left[-1]]
            inner = [number for number in names_in(told, self.solved) if number not in self.wholes]
            if inner:
                left.extend(inner)
            else:
                self.wholes[left.pop()] = with_solved(told, self.wholes)

    def kind(self, number):
        """The kind of an open name, what is solved put in."""
        return self.put(self.told[number][1])

    def unsolved(self):
        """The numbers of the names that aren't solved."""
        return [number for number in range(len(self.told)) if number not in self.solved]

    def solve(self, number, term):
        """Let the name be solved by a term in which no solved name stands."""
        self.solved[number] = term
        self.wholes = {}

    def may_solve(self, here, there):
        """Whether here stands a name that may be solved and isn't yet, in which what stands there isn't open."""
        if here[0] != "at" or is_open(there, here[1]):
            return False
        number = number_of(here[1], 0)
        return 0 <= number < len(self.told) and self.told[number][2] and number not in self.solved
