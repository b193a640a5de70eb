"""Single steps of terms, and ways of them."""

from kindsbyworth.errors import TooGreat
from kindsbyworth.limits import DEEPEST, GREATEST
from kindsbyworth.lookups import body_measured, definition_of
from kindsbyworth.putting import Measured, put_in
from kindsbyworth.terms import is_count, measures, parts_of, size_of, with_child


def shape_terms(scope, term):
    """The terms of a shape behind its family's params, None where no shape of the Scope's stands."""
    if term[0] != "shape":
        return None
    many = scope.shapes.get(term[1:3])
    if many is None or len(term[3]) != many[0] + many[1]:
        return None
    return term[3][many[0]:]


def met(scope, patterns, terms, taken):
    """How patterns meet terms: None where they take these, what takes take behind what is in a list;
    False where the next row is to be tried; else the term at which no shape stands."""
    for pattern, term in zip(patterns, terms):
        if pattern[0] == "take":
            taken.append(term)
        elif pattern[0] == "shape":
            within = shape_terms(scope, term)
            if within is None:
                return term
            if term[2] != pattern[1] or len(within) != len(pattern[2]):
                return False
            told = met(scope, pattern[2], within, taken)
            if told is not None:
                return told
    return None


def rows_met(scope, definition, terms):
    """How a definition's rows meet terms: (word, row, told), word `takes` with what the row takes, `waits`
    with the term at which no shape stands, or `passes`, where no row is left."""
    for row, (patterns, body) in enumerate(definition[4]):
        taken = []
        told = met(scope, patterns, terms, taken)
        if told is None:
            return "takes", row, tuple(taken)
        if told is not False:
            return "waits", row, told
    return "passes", None, None


def called(scope, call):
    """How a call goes on, as rows_met tells; `passes` where no definition is meant, too."""
    definition = definition_of(scope, call[1])
    if definition is None or len(definition[1]) != len(call[2]):
        return "passes", None, None
    return rows_met(scope, definition, call[2])


def is_given(term):
    """Whether it is a give to a fun of its own mark."""
    return term[0] == "give" and term[2][0] == "fun" and term[2][1] == term[1]


def coming(scope, term):
    """(body, terms, row) where by a step at the term itself the body comes, these put in, row None of a give;
    else None."""
    if term[0] == "give":
        return (term[2][3], term[3:], None) if is_given(term) else None
    if term[0] != "call":
        return None
    word, row, told = called(scope, term)
    if word != "takes":
        return None
    return definition_of(scope, term[1])[4][row][1], told, row


class Going:
    """A term in which steps go, as the terms from it down to where one goes next, and the spot of this.

    Terms above a step hold what was there ahead of it, till they are asked for: stale tells how many do.
    How great and how deep the whole is is told by bounds that it doesn't exceed, as far as these will do.
    """

    def __init__(self, scope, term):
        self.set_up(scope, term)

    def set_up(self, scope, term):
        """Stand at the term itself, ahead of all steps."""
        self.scope = scope
        self.chain = [term]
        self.spot = []
        self.stale = 0
        self.size = None
        self.depth = None

    def down(self, number, part):
        """Go down to a part."""
        self.spot.append(number)
        self.chain.append(part)

    def up(self):
        """Go up to the term that has this part; the number of the part."""
        part = self.chain.pop()
        number = self.spot.pop()
        if self.stale > len(self.spot):
            self.chain[-1] = with_child(self.chain[-1], number, part)
            self.stale = len(self.spot)
        return number

    def whole(self):
        """The whole term as it is now."""
        return self.fresh(0)

    def fresh(self, level):
        """The term so many levels down as it is now."""
        while self.stale > level:
            at = self.stale - 1
            self.chain[at] = with_child(self.chain[at], self.spot[at], self.chain[at + 1])
            self.stale = at
        return self.chain[level]

    def put(self, comes):
        """Let what comes by a step come here; TooGreat."""
        body, terms, row = comes
        if self.size is None:
            self.size, self.depth = measures(self.chain[0])
        here = self.chain[-1]
        if row is None:
            measured = Measured(body)
        else:
            measured = body_measured(self.scope, here[1], row)
            self.size = self.size + measured.size
            self.depth = max(self.depth, len(self.spot) + measured.depth)
        self._keep_bounds(measured, terms)
        self.chain[-1] = put_in(body, terms)
        self.stale = len(self.spot)
        if self.size > GREATEST or self.depth > DEEPEST:
            self._measure()

    def _keep_bounds(self, measured, terms):
        """Let the bounds be those behind a step: each term was there once, at least one level down."""
        deepest = 1
        for number in measured.names:
            if number < len(terms):
                times, depth = measured.names[number]
                deepest = max(deepest, depth)
                if times > 1:
                    self.size = self.size + (times - 1) * size_of(terms[len(terms) - 1 - number])
        self.depth = self.depth + deepest - 1

    def _measure(self):
        """Measure the whole; TooGreat."""
        self.size, self.depth = measures(self.whole())
        if self.size > GREATEST or self.depth > DEEPEST:
            raise TooGreat(self.size)

    def goes_to(self, spot):
        """Go to a spot, of anything, and tell whether there is one."""
        if not isinstance(spot, tuple):
            return False
        shared = 0
        for number, other in zip(spot, self.spot):
            if not is_count(number) or number != other:
                break
            shared = shared + 1
        while len(self.spot) > shared:
            self.up()
        for number in spot[shared:]:
            parts = parts_of(self.chain[-1])
            if not is_count(number) or number >= len(parts):
                return False
            self.down(number, parts[number])
        return True

    def goes_step(self, spot, noted):
        """Go a step at a spot, of anything, and tell whether one goes; TooGreat.

        The name of the definition that is unfolded so is set down in noted, a dict.
        """
        if not self.goes_to(spot):
            return False
        here = self.chain[-1]
        comes = coming(self.scope, here)
        if comes is None:
            return False
        if here[0] == "call":
            noted[here[1]] = True
        self.put(comes)
        return True


def step_at(scope, term, spot):
    """The whole term behind a step at the spot, None where none goes; TooGreat of one beyond the bounds."""
    going = Going(scope, term)
    return going.whole() if going.goes_step(spot, {}) else None


def walked_noting(scope, term, way, noted):
    """As walked; the names of the definitions that are unfolded so are set down in noted, a dict."""
    if not isinstance(way, tuple):
        return None
    if not way:
        return term
    going = Going(scope, term)
    try:
        for spot in way:
            if not going.goes_step(spot, noted):
                return None
    except TooGreat:
        return None
    return going.whole()


def walked(scope, term, way):
    """The term behind all steps of the way, None where one goes no step."""
    return walked_noting(scope, term, way, {})
