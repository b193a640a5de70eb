"""Single steps of terms, and ways of them."""

from kindsbyworth.errors import NoSpot, TooGreat
from kindsbyworth.limits import DEEPEST, GREATEST
from kindsbyworth.lookups import definition_of, family_of, shape_of
from kindsbyworth.putting import put_in
from kindsbyworth.terms import measures, part_at, with_part


def shape_terms(scope, term):
    """The terms of a shape behind its family's params, None where no shape of the Scope's stands."""
    if term[0] != "shape":
        return None
    family = family_of(scope, term[1])
    shape = None if family is None else shape_of(family, term[2])
    if shape is None or len(term[3]) != len(family[2]) + len(shape[1]):
        return None
    return term[3][len(family[2]):]


def paired(patterns, terms):
    """A list of patterns with their terms, the first one last, so that it is popped first."""
    pairs = list(zip(patterns, terms))
    pairs.reverse()
    return pairs


def met(scope, patterns, terms):
    """How patterns meet terms: (word, taken), word `takes`, `passes` (to the next row) or `waits`."""
    taken = []
    left = paired(patterns, terms)
    while left:
        pattern, term = left.pop()
        if pattern[0] == "take":
            taken.append(term)
        if pattern[0] != "shape":
            continue
        within = shape_terms(scope, term)
        if within is None:
            return "waits", ()
        if term[2] != pattern[1] or len(within) != len(pattern[2]):
            return "passes", ()
        left.extend(paired(pattern[2], within))
    return "takes", tuple(taken)


def called(scope, call):
    """What comes for a call by the row that takes it, None where it waits."""
    definition = definition_of(scope, call[1])
    if definition is None or len(definition[1]) != len(call[2]):
        return None
    for patterns, body in definition[4]:
        word, taken = met(scope, patterns, call[2])
        if word == "waits":
            return None
        if word == "takes":
            return put_in(body, taken)
    return None


def given(give):
    """What comes for a give of a fun of its own mark, None where something else is given to."""
    mark, function, argument = give[1:]
    if function[0] != "fun" or function[1] != mark:
        return None
    return put_in(function[3], (argument,))


def stepped(scope, term):
    """What comes for the term itself by a step at it, None where no step goes there."""
    if term[0] == "give":
        return given(term)
    if term[0] == "call":
        return called(scope, term)
    return None


def step_at(scope, term, spot):
    """The whole term behind a step at the spot, None where none goes; TooGreat of one beyond the bounds."""
    try:
        here = part_at(term, spot)
    except NoSpot:
        return None
    made = stepped(scope, here)
    if made is None:
        return None
    whole = with_part(term, spot, made)
    size, depth = measures(whole)
    if size > GREATEST or depth > DEEPEST:
        raise TooGreat(size)
    return whole


def walked(scope, term, way):
    """The term behind all steps of the way, None where one goes no step."""
    if not isinstance(way, tuple):
        return None
    for spot in way:
        try:
            term = step_at(scope, term, spot)
        except TooGreat:
            return None
        if term is None:
            return None
    return term
