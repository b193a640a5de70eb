"""Running closed terms to worths."""

from kindsbyworth.errors import Holed, TooGreat, TooLong
from kindsbyworth.limits import DEEPEST, GREATEST, MOST
from kindsbyworth.lookups import body_measured, definition_of, wanted_of
from kindsbyworth.putting import Measured
from kindsbyworth.terms import parts_of, with_ats

# Words of terms that are worths as they stand.
WORTHS = ("fun", "to", "world", "family")
# The numbers of the parts of a give that are run ahead of it, the last one first.
GIVEN = {"run": (1, 0), "gone": (0,)}


def called_names(term):
    """The names that calls in a term have, as often as they stand."""
    found = []
    left = [term]
    while left:
        here = left.pop()
        if here[0] == "call":
            found.append(here[1])
        left.extend(parts_of(here))
    return found


def names_in_reach(scope, term):
    """A dict whose keys are the names called in the term, in rows of these, and so on."""
    found = {}
    left = called_names(term)
    while left:
        name = left.pop()
        if name in found:
            continue
        found[name] = True
        definition = definition_of(scope, name)
        if definition is not None:
            for patterns, body in definition[4]:
                left.extend(called_names(body))
    return found


def refuse_holes(scope, term):
    """Holed of the first open item, rising, of those in reach of the term."""
    names = [item[1] for item in scope.all_items if item[0] == "open"]
    if not names:
        return
    reach = names_in_reach(scope, term)
    for name in sorted(names):
        if name in reach:
            raise Holed(name)


class Closed:
    """A closed term: a text and what is put in it, the nearest name last; what it is told as, and how great
    and deep it is, is made out only when it is asked for. A shape that is a worth has parts, such ones too."""

    def __init__(self, text, around, parts):
        self.text = text
        self.around = around
        self.parts = parts
        self.told = None
        self.sizes = None

    def shown(self):
        """The term itself."""
        if self.told is None:
            if self.parts is not None:
                self.told = self.text[:3] + (tuple([part.shown() for part in self.parts]),)
            elif self.around:
                self.told = with_ats(self.text, lambda k, bodies: self._put(k, bodies))
            else:
                self.told = self.text
        return self.told

    def _put(self, k, bodies):
        """What comes for a name beneath so many bodies of the text."""
        return ("at", k) if k < bodies else self.around[len(self.around) - 1 - k + bodies].shown()

    def measures(self):
        """How great and how deep it is."""
        if self.sizes is None:
            if self.parts is None:
                self.sizes = put_sizes(Measured(self.text), self.around)
            else:
                size, depth = 1, 0
                for part in self.parts:
                    inner, within = part.measures()
                    size = size + inner
                    depth = max(depth, within + 1)
                self.sizes = (size, depth)
        return self.sizes


def refuse_great(sizes):
    """TooGreat of what is so great and so deep, if that is beyond the bounds."""
    if sizes[0] > GREATEST or sizes[1] > DEEPEST:
        raise TooGreat(sizes[0])


def put_sizes(measured, around):
    """How great and deep a body is with these put in for names."""
    size, depth = measured.size, measured.depth
    many = len(around)
    for number in measured.names:
        if number < many:
            times, deepest = measured.names[number]
            inner, within = around[many - 1 - number].measures()
            size = size + times * (inner - 1)
            depth = max(depth, deepest + within)
    return size, depth


def closed_text(text, around):
    """A text, and what is put in it."""
    if text[0] == "at" and text[1] < len(around):
        return around[len(around) - 1 - text[1]]
    return Closed(text, around, None)


def met(scope, patterns, things, taken):
    """Whether patterns take worths, and what stands at gone places; what takes take is put in a list.
    None where no shape stands at a pattern of one."""
    for pattern, here in zip(patterns, things):
        if pattern[0] == "take":
            taken.append(here)
        elif pattern[0] == "shape":
            if here.parts is None:
                return None
            if here.text[2] != pattern[1]:
                return False
            many = len(here.parts) - len(pattern[2])
            told = met(scope, pattern[2], here.parts[many:], taken)
            if not told:
                return told
    return True


class Run:
    """A run: what is still to do, the worths that wait for it, how many steps went.

    To do is (text, around, runs): a text to run, runs None, or one whose
    parts with these numbers, the last one first, were run.
    """

    def __init__(self, scope, term, most):
        self.scope = scope
        self.most = most
        self.steps = 0
        self.worths = []
        self.left = [(term, (), None)]

    def worth(self):
        """The worth that it comes to, None where it sticks."""
        while self.left:
            text, around, runs = self.left.pop()
            if runs is None:
                goes = self._begin(text, around)
            elif text[0] == "shape":
                self._keep(Closed(text, (), self._parts(text[3], around, runs)))
                goes = True
            else:
                goes = self._step(text, self._parts(parts_of(text), around, runs))
            if not goes:
                return None
        return self.worths[0].shown()

    def _begin(self, text, around):
        """Keep a worth, or set down what is to run ahead of the text; False of what is none of both."""
        word = text[0]
        if word == "at":
            if text[1] >= len(around):
                return False
            self.worths.append(around[len(around) - 1 - text[1]])
        elif word in WORTHS:
            self._keep(Closed(text, around, None))
        elif word == "shape" and not text[3]:
            self._keep(Closed(text, (), ()))
        elif word == "hole":
            return False
        else:
            parts = parts_of(text)
            runs = GIVEN[text[1]] if word == "give" else wanted_of(self.scope, text).runs
            self.left.append((text, around, runs))
            for at in runs:
                self.left.append((parts[at], around, None))
        return True

    def _parts(self, texts, around, runs):
        """The parts of a text, those with these numbers as they were run."""
        first = len(self.worths) - len(runs)
        worths = self.worths[first:]
        del self.worths[first:]
        if len(worths) == len(texts):
            return worths
        worths.reverse()
        return [worths.pop() if at in runs else closed_text(text, around) for at, text in enumerate(texts)]

    def _keep(self, worth):
        """Keep a worth for what waits for it; TooGreat."""
        refuse_great(worth.measures())
        self.worths.append(worth)

    def _step(self, text, parts):
        """Go on with a give or call whose parts were run; False where it sticks."""
        if text[0] == "give":
            fun = parts[0].text
            if fun[0] != "fun" or fun[1] != text[1]:
                return False
            return self._go_on(fun[3], parts[0].around + (parts[1],), Measured(fun[3]))
        definition = definition_of(self.scope, text[1])
        for row, (patterns, body) in enumerate(definition[4]):
            taken = []
            told = met(self.scope, patterns, parts, taken)
            if told:
                return self._go_on(body, tuple(taken), body_measured(self.scope, text[1], row))
            if told is None:
                return False
        return False

    def _go_on(self, body, around, measured):
        """Run a body with what is put in it; TooLong, TooGreat."""
        if self.steps == self.most:
            raise TooLong(self.most)
        self.steps = self.steps + 1
        refuse_great(put_sizes(measured, around))
        self.left.append((body, around, None))
        return True


def run_told(scope, term, most):
    """The worth of a closed term and how many steps its run goes; (None, steps) where it sticks."""
    run = Run(scope, term, most)
    worth = run.worth()
    return worth, run.steps


def run_of(scope, term, *, most=MOST):
    """The worth of a closed term and how many steps its run goes; Holed, TooLong, TooGreat."""
    refuse_holes(scope, term)
    return run_told(scope, term, most)
