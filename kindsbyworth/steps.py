"""Single steps of terms, and ways of them."""

from kindsbyworth.errors import NoSpot, TooGreat
from kindsbyworth.limits import DEEPEST, GREATEST
from kindsbyworth.lookups import definition_of, family_of, shape_of
from kindsbyworth.putting import put_in, put_measures
from kindsbyworth.terms import chain_to, measures, size_of, with_child


def shape_terms(scope, term):
    """The terms of a shape behind its family's params, None where no shape of the Scope's stands."""
    if term[0] != "shape":
        return None
    family = family_of(scope, term[1])
    shape = None if family is None else shape_of(family, term[2])
    if shape is None or len(term[3]) != len(family[2]) + len(shape[1]):
        return None
    return term[3][len(family[2]):]


def paired(patterns, terms):
    """A list of patterns with their terms, the first one last, so that it is popped first."""
    pairs = list(zip(patterns, terms))
    pairs.reverse()
    return pairs


def met(scope, patterns, terms):
    """How patterns meet terms: (word, told), word `takes` with what they take, `passes` (to the
    next row), or `waits` with the term at which no shape stands."""
    taken = []
    left = paired(patterns, terms)
    while left:
        pattern, term = left.pop()
        if pattern[0] == "take":
            taken.append(term)
        if pattern[0] != "shape":
            continue
        within = shape_terms(scope, term)
        if within is None:
            return "waits", term
        if term[2] != pattern[1] or len(within) != len(pattern[2]):
            return "passes", None
        left.extend(paired(pattern[2], within))
    return "takes", tuple(taken)


def rows_met(scope, definition, terms):
    """How a definition's rows meet terms: (word, row, told); `passes` where no row is left."""
    for row, (patterns, body) in enumerate(definition[4]):
        word, told = met(scope, patterns, terms)
        if word != "passes":
            return word, row, told
    return "passes", None, None


def called(scope, call):
    """How a call goes on, as rows_met tells; `passes` where no definition is meant, too."""
    definition = definition_of(scope, call[1])
    if definition is None or len(definition[1]) != len(call[2]):
        return "passes", None, None
    return rows_met(scope, definition, call[2])


def is_given(term):
    """Whether it is a give to a fun of its own mark."""
    return term[0] == "give" and term[2][0] == "fun" and term[2][1] == term[1]


def coming(scope, term):
    """(body, terms) where by a step at the term itself the body comes, these put in; else None."""
    if term[0] == "give":
        return (term[2][3], term[3:]) if is_given(term) else None
    if term[0] != "call":
        return None
    word, row, told = called(scope, term)
    if word != "takes":
        return None
    return definition_of(scope, term[1])[4][row][1], told


class Whole:
    """A whole term's size through steps within it, and whether it is known to be no deeper than bounds say."""

    def __init__(self, term):
        self.size, depth = measures(term)
        self.is_deep = depth > DEEPEST

    def made(self, chain, spot, comes):
        """The new chain of terms down to the spot behind this step there; TooGreat."""
        body, terms = comes
        size, depth = put_measures(body, terms)
        size = size + self.size - size_of(chain[-1])
        if size > GREATEST or len(spot) + depth > DEEPEST:
            raise TooGreat(size)
        rising = [put_in(body, terms)]
        for at in reversed(range(len(spot))):
            rising.append(with_child(chain[at], spot[at], rising[-1]))
        rising.reverse()
        if self.is_deep:
            if measures(rising[0])[1] > DEEPEST:
                raise TooGreat(size)
            self.is_deep = False
        self.size = size
        return rising


def step_made(scope, term, spot, whole, noted):
    """The term behind a step at the spot, None where none goes there; TooGreat.

    The name of the definition that is unfolded so is set down in noted, a dict.
    """
    try:
        chain = chain_to(term, spot)
    except NoSpot:
        return None
    comes = coming(scope, chain[-1])
    if comes is None:
        return None
    if chain[-1][0] == "call":
        noted[chain[-1][1]] = True
    return whole.made(chain, spot, comes)[0]


def step_at(scope, term, spot):
    """The whole term behind a step at the spot, None where none goes; TooGreat of one beyond the bounds."""
    return step_made(scope, term, spot, Whole(term), {})


def walked_noting(scope, term, way, noted):
    """As walked; the names of the definitions that are unfolded so are set down in noted, a dict."""
    if not isinstance(way, tuple):
        return None
    if not way:
        return term
    whole = Whole(term)
    for spot in way:
        try:
            term = step_made(scope, term, spot, whole, noted)
        except TooGreat:
            return None
        if term is None:
            return None
    return term


def walked(scope, term, way):
    """The term behind all steps of the way, None where one goes no step."""
    return walked_noting(scope, term, way, {})
