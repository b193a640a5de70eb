"""Outcomes and heads: what the way that always takes the least spot leads to."""

from kindsbyworth.errors import TooLong
from kindsbyworth.limits import MOST
from kindsbyworth.sameness import are_same_terms
from kindsbyworth.steps import Going, called, coming, is_given
from kindsbyworth.terms import parts_of

# Words of terms at which no step of the way goes, and that wait for none.
STANDING = ("at", "world", "hole", "to", "fun", "family", "shape")


def is_standing(scope, term):
    """Whether the term stands: no step of the way goes at it, or at what it waits for."""
    while term[0] not in STANDING:
        if term[0] == "give":
            if is_given(term):
                return False
            term = term[2]
        else:
            word, row, told = called(scope, term)
            if word != "waits":
                return word == "passes"
            term = told
    return True


def is_still(term):
    """Whether no step can go in the term, as it has no parts, and is no call."""
    return len(term) == 2 or (not term[-1] and term[0] != "call")


class Reckoning(Going):
    """A term on its way: where the way goes on, and how far it has gone.

    Spots rise as terms are gone through from the outside, leftmost first; so
    all that lies ahead of the spot where the search stands goes no step, but
    for what is around it, which a step may change.
    """

    def __init__(self, scope, term, most):
        self.set_up(scope, term)
        self.most = most
        self.way = []
        # For each number of the spot the level of the nearest term above that is no shape, -1 where all are.
        self.outer = []

    def go_step(self):
        """Go one step, and tell whether one went."""
        while True:
            comes = coming(self.scope, self.chain[-1])
            if comes is not None:
                self._step(comes)
                return True
            if not self._moved_on():
                return False

    def _moved_on(self):
        """Go to the next spot at which a step may go, and tell whether there is one."""
        number = 0
        while True:
            parts = parts_of(self.chain[-1])
            while number < len(parts) and is_still(parts[number]):
                number = number + 1
            if number < len(parts):
                self._enter(number, parts[number])
                return True
            if not self.spot:
                return False
            number = self._leave() + 1

    def _enter(self, number, part):
        """Go down to a part."""
        level = len(self.spot)
        if self.chain[-1][0] == "shape":
            level = self.outer[-1] if self.outer else -1
        self.outer.append(level)
        self.down(number, part)

    def _leave(self):
        """Go up; the number of the part that was left."""
        self.outer.pop()
        return self.up()

    def _step(self, comes):
        """Put what comes in its place; the search goes on there, or at what is around it that goes a step by it.

        A give does so where its function is a fun now; a call where it waited
        at this spot, and a shape stands there now: but for shapes nothing lies
        between.
        """
        if len(self.way) == self.most:
            raise TooLong(self.most)
        spot = tuple(self.spot)
        self.put(comes)
        self.way.append(spot)
        if not spot:
            return
        word = self.chain[-1][0]
        if word == "fun" and spot[-1] == 0 and self.chain[-2][0] == "give":
            self._leave()
        elif word == "shape" and self.outer[-1] >= 0 and self.chain[self.outer[-1]][0] == "call":
            level = self.outer[-1]
            if coming(self.scope, self.fresh(level)) is not None:
                while len(self.spot) > level:
                    self._leave()


def outcome_way(scope, term, *, most=MOST):
    """The way to the term's outcome, and this."""
    reckoning = Reckoning(scope, term, most)
    while reckoning.go_step():
        pass
    return tuple(reckoning.way), reckoning.whole()


def head_way(scope, term, *, most=MOST):
    """The way to the term's head, and this."""
    if is_standing(scope, term):
        return (), term
    reckoning = Reckoning(scope, term, most)
    while reckoning.go_step() and not is_standing(scope, reckoning.whole()):
        pass
    return tuple(reckoning.way), reckoning.whole()


def alike_ways(scope, one, other, most):
    """Ways of both terms to one, None where they aren't alike."""
    if are_same_terms(one, other):
        return (), ()
    left, first = outcome_way(scope, one, most=most)
    right, second = outcome_way(scope, other, most=most)
    return (left, right) if are_same_terms(first, second) else None


def are_alike(scope, one, other, *, most=MOST):
    """Whether two terms are the same, or have one outcome."""
    return alike_ways(scope, one, other, most) is not None
