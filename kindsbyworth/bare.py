"""Running bare terms to worths.

Names are looked up in what stands around them, so no term is put in another;
what is told of a worth is made once, at the end. Worths may be thousands
deep, and one may stand in another thousands of times.
"""

from kindsbyworth.bareterms import DULL, open_numbers, put_bare
from kindsbyworth.errors import TooLong
from kindsbyworth.limits import MOST


class Dull:
    """The worth of what is dull."""

    def __init__(self):
        self.told = DULL


class Made:
    """A worth that is a shape of worths."""

    def __init__(self, name, parts):
        self.name = name
        self.parts = parts
        self.told = None


class Held:
    """A worth that is a fun or a wait, with the worths around it, the nearest last."""

    def __init__(self, term, around):
        self.term = term
        self.around = around
        self.told = None

    def needed(self):
        """A dict from the numbers of names open in the term to the worths that these are."""
        many = len(self.around)
        return {number: self.around[many - 1 - number] for number in open_numbers(self.term, 0)}


def taken(patterns, worths):
    """What the patterns of a row take of worths; None where they don't take these."""
    found = []
    left = list(zip(patterns, worths))
    left.reverse()
    while left:
        pattern, worth = left.pop()
        if pattern[0] == "take":
            found.append(worth)
        elif pattern[0] == "shape":
            if not isinstance(worth, Made) or worth.name != pattern[1]:
                return None
            inner = list(zip(pattern[2], worth.parts))
            inner.reverse()
            left.extend(inner)
    return tuple(found)


class BareRun:
    """A bare run: what is still to do, the worths that wait for it, how many steps went."""

    def __init__(self, program, most):
        self.rows = {definition[0]: definition[2] for definition in program}
        self.most = most
        self.steps = 0
        self.worths = []
        self.left = []

    def worth(self, term):
        """The worth that the term comes to, None where it sticks."""
        self.left = [(term, (), None)]
        while self.left:
            here, around, many = self.left.pop()
            if many is None:
                self._begin(here, around)
            elif here[0] == "shape":
                self.worths.append(Made(here[1], self._last(many)))
            elif not self._step(here, self._last(many)):
                return None
        return self.worths[0]

    def _begin(self, here, around):
        """Keep a worth, or set down what is to run ahead of the term."""
        word = here[0]
        if word == "at":
            self.worths.append(around[len(around) - 1 - here[1]])
        elif word in ("fun", "wait"):
            self.worths.append(Held(here, around))
        elif word == "dull":
            self.worths.append(Dull())
        else:
            parts = here[2] if word in ("shape", "call") else here[1:]
            self.left.append((here, around, len(parts)))
            self.left.extend([(part, around, None) for part in reversed(parts)])

    def _last(self, many):
        """So many worths, the last ones."""
        first = len(self.worths) - many
        worths = tuple(self.worths[first:])
        del self.worths[first:]
        return worths

    def _step(self, here, worths):
        """Go on with the term whose parts were run; False where it sticks."""
        body, around = self._called(here[1], worths) if here[0] == "call" else self._given(here[0], worths)
        if body is None:
            return False
        if self.steps == self.most:
            raise TooLong(self.most)
        self.steps = self.steps + 1
        self.left.append((body, around, None))
        return True

    def _called(self, name, worths):
        """The body of the row that takes these, and what it takes; None where none does."""
        for patterns, body in self.rows.get(name, ()):
            found = taken(patterns, worths)
            if found is not None:
                return body, found
        return None, ()

    def _given(self, word, worths):
        """The body of a fun or wait, and what is around it; None of what is none."""
        held = worths[0]
        if not isinstance(held, Held) or (held.term[0] == "fun") != (word == "give"):
            return None, ()
        return held.term[1], held.around + worths[1:]


def told_of(worth):
    """The bare term of a worth."""
    left = [worth]
    while left:
        here = left[-1]
        if here.told is not None:
            left.pop()
            continue
        needed = here.needed() if isinstance(here, Held) else dict(enumerate(here.parts))
        waiting = [part for part in list(needed.values()) if part.told is None]
        if waiting:
            left.extend(waiting)
            continue
        told = {number: needed[number].told for number in needed}
        if isinstance(here, Held):
            here.told = put_bare(here.term, told)
        else:
            here.told = ("shape", here.name, tuple([told[number] for number in range(len(told))]))
    return worth.told


def bare_run(program, term, *, most=MOST):
    """The worth of a closed bare term and how many steps its run goes; TooLong."""
    run = BareRun(program, most)
    worth = run.worth(term)
    return None if worth is None else told_of(worth), run.steps
