"""Outcomes and heads: what the way that always takes the least spot leads to."""

from kindsbyworth.errors import TooLong
from kindsbyworth.limits import MOST
from kindsbyworth.sameness import are_same
from kindsbyworth.steps import Whole, called, coming, is_given
from kindsbyworth.terms import parts_of


def is_standing(scope, term):
    """Whether the term stands: no step of the way goes at it, or at what it waits for."""
    while True:
        if term[0] == "give":
            if is_given(term):
                return False
            term = term[2]
        elif term[0] == "call":
            word, row, told = called(scope, term)
            if word != "waits":
                return word == "passes"
            term = told
        else:
            return True


class Reckoning:
    """A term on its way: where the way goes on, and how far it has gone.

    Spots rise as terms are gone through from the outside, leftmost first; so
    all that lies ahead of the spot where the search stands goes no step, but
    for what is around it, which a step may change.
    """

    def __init__(self, scope, term, most):
        self.scope = scope
        self.most = most
        self.way = []
        self.chain = [term]
        self.spot = []
        self.whole = None

    def term(self):
        """The whole term as it is now."""
        return self.chain[0]

    def go_step(self):
        """Go one step, and tell whether one went."""
        while True:
            comes = coming(self.scope, self.chain[-1])
            if comes is not None:
                self._step(comes)
                return True
            if not self._moved_on():
                return False

    def _moved_on(self):
        """Go to the next spot, and tell whether there is one."""
        number = 0
        parts = parts_of(self.chain[-1])
        while number >= len(parts):
            if not self.spot:
                return False
            self.chain.pop()
            number = self.spot.pop() + 1
            parts = parts_of(self.chain[-1])
        self.spot.append(number)
        self.chain.append(parts[number])
        return True

    def _step(self, comes):
        """Put what comes in its place; the search goes on at the outermost that goes a step by it."""
        if len(self.way) == self.most:
            raise TooLong(self.most)
        if self.whole is None:
            self.whole = Whole(self.chain[0])
        spot = tuple(self.spot)
        self.chain = self.whole.made(self.chain, spot, comes)
        self.way.append(spot)
        for at in range(len(spot)):
            if coming(self.scope, self.chain[at]) is not None:
                del self.chain[at + 1:]
                del self.spot[at:]
                return


def outcome_way(scope, term, *, most=MOST):
    """The way to the term's outcome, and this."""
    reckoning = Reckoning(scope, term, most)
    while reckoning.go_step():
        pass
    return tuple(reckoning.way), reckoning.term()


def head_way(scope, term, *, most=MOST):
    """The way to the term's head, and this."""
    if is_standing(scope, term):
        return (), term
    reckoning = Reckoning(scope, term, most)
    while reckoning.go_step() and not is_standing(scope, reckoning.term()):
        pass
    return tuple(reckoning.way), reckoning.term()


def alike_ways(scope, one, other, most):
    """Ways of both terms to one, None where they aren't alike."""
    if are_same(one, other):
        return (), ()
    left, first = outcome_way(scope, one, most=most)
    right, second = outcome_way(scope, other, most=most)
    return (left, right) if are_same(first, second) else None


def are_alike(scope, one, other, *, most=MOST):
    """Whether two terms are the same, or have one outcome."""
    return alike_ways(scope, one, other, most) is not None
