"""Running closed terms to worths."""

from kindsbyworth.errors import Holed, TooGreat, TooLong
from kindsbyworth.limits import DEEPEST, GREATEST, MOST
from kindsbyworth.lookups import definition_of, family_of, shape_of
from kindsbyworth.putting import put_in, put_measures
from kindsbyworth.steps import coming
from kindsbyworth.terms import measures, parts_of, with_parts

# Words of terms that are worths as they stand.
WORTHS = ("fun", "to", "world", "family")


def called_names(term):
    """The names that calls in a term have, as often as they stand."""
    found = []
    left = [term]
    while left:
        here = left.pop()
        if here[0] == "call":
            found.append(here[1])
        left.extend(parts_of(here))
    return found


def names_in_reach(scope, term):
    """A dict whose keys are the names called in the term, in rows of these, and so on."""
    found = {}
    left = called_names(term)
    while left:
        name = left.pop()
        if name in found:
            continue
        found[name] = True
        definition = definition_of(scope, name)
        if definition is not None:
            for patterns, body in definition[4]:
                left.extend(called_names(body))
    return found


def refuse_holes(scope, term):
    """Holed of the first open item, rising, of those in reach of the term."""
    names = [item[1] for item in scope.all_items if item[0] == "open"]
    if not names:
        return
    reach = names_in_reach(scope, term)
    for name in sorted(names):
        if name in reach:
            raise Holed(name)


def marks_of(scope, term):
    """The marks of a shape's or call's terms."""
    if term[0] == "call":
        return [mark for mark, kind in definition_of(scope, term[1])[1]]
    family = family_of(scope, term[1])
    return [mark for mark, kind in family[2] + shape_of(family, term[2])[1]]


def is_great(measured):
    """Whether what has such a size and depth is beyond the bounds."""
    return measured[0] > GREATEST or measured[1] > DEEPEST


def refuse_great(measured):
    """TooGreat of what has such a size and depth, if that is beyond the bounds."""
    if is_great(measured):
        raise TooGreat(measured[0])


def run_parts(scope, term):
    """The parts that are run ahead of the term."""
    if term[0] == "give":
        return [term[2]] if term[1] == "gone" else [term[2], term[3]]
    return [part for mark, part in zip(marks_of(scope, term), parts_of(term)) if mark == "run"]


def is_worth(scope, term):
    """Whether it is a worth as it stands."""
    left = [term]
    while left:
        here = left.pop()
        if here[0] == "shape":
            left.extend(run_parts(scope, here))
        elif here[0] not in WORTHS:
            return False
    return True


def with_worths(scope, term, worths):
    """The term with worths in the place of the parts that were run."""
    if term[0] == "give":
        return ("give", term[1], worths[0], term[3] if term[1] == "gone" else worths[1])
    marks, rest = marks_of(scope, term), list(reversed(worths))
    return with_parts(term, tuple([
        rest.pop() if mark == "run" else part for mark, part in zip(marks, parts_of(term))
    ]))


class Run:
    """A run: what is still to do, the worths that wait for it, how many steps went."""

    def __init__(self, scope, term, most):
        self.scope = scope
        self.most = most
        self.steps = 0
        self.worths = []
        self.left = [(term, None)]

    def worth(self):
        """The worth that it comes to, None where it sticks."""
        while self.left:
            term, many = self.left.pop()
            if many is None:
                self._begin(term)
            elif not self._end(term, many):
                return None
        return self.worths[0]

    def _begin(self, term):
        """Keep a worth, or set down what is to run ahead of the term."""
        if term[0] in WORTHS or (is_worth(self.scope, term) and not is_great(measures(term))):
            self._keep(term)
            return
        parts = run_parts(self.scope, term)
        self.left.append((term, len(parts)))
        self.left.extend([(part, None) for part in reversed(parts)])

    def _keep(self, worth):
        """Keep a worth for what waits for it."""
        refuse_great(measures(worth))
        self.worths.append(worth)

    def _end(self, term, many):
        """Go on with the term, so many parts of which were run; False where it sticks."""
        first = len(self.worths) - many
        term = with_worths(self.scope, term, self.worths[first:])
        del self.worths[first:]
        if term[0] == "shape":
            self._keep(term)
            return True
        comes = coming(self.scope, term)
        if comes is None:
            return False
        if self.steps == self.most:
            raise TooLong(self.most)
        self.steps = self.steps + 1
        refuse_great(put_measures(comes[0], comes[1]))
        self.left.append((put_in(comes[0], comes[1]), None))
        return True


def run_told(scope, term, most):
    """The worth of a closed term and how many steps its run goes; (None, steps) where it sticks."""
    run = Run(scope, term, most)
    worth = run.worth()
    return worth, run.steps


def run_of(scope, term, *, most=MOST):
    """The worth of a closed term and how many steps its run goes; Holed, TooLong, TooGreat."""
    refuse_holes(scope, term)
    return run_told(scope, term, most)
