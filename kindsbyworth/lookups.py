"""What a Scope has under a name."""

from kindsbyworth.putting import Measured
from kindsbyworth.terms import laid_out


def family_of(scope, name):
    """The family of this name, None where there is none."""
    return scope.families.get(name)


def definition_of(scope, name):
    """The definition of this name, None where there is none."""
    return scope.definitions.get(name)


def shape_of(family, name):
    """The family's shape of this name, None where it has none."""
    for shape in family[5]:
        if shape[0] == name:
            return shape
    return None


def own_names(many, further):
    """The ats of so many names, so many further ones behind them."""
    return tuple([("at", further + many - 1 - place) for place in range(many)])


def has_open(term):
    """Whether a name stands in the term that isn't of a body within it."""
    return any([part[0] == "at" and part[1] >= bodies for _, part, bodies in laid_out(term)])


class Wanted:
    """What is wanted where a name stands: a telescope that the parts fit, and the kind of the whole.

    Of each kind, and of this one, it is told whether any of those ahead stands in it: else nothing is put in.
    Of the places of mark run their numbers are told, the last one first.
    """

    def __init__(self, telescope, result):
        self.places = [(mark, one, has_open(one)) for mark, one in telescope]
        self.runs = tuple([at for at in reversed(range(len(telescope))) if telescope[at][0] == "run"])
        self.result = result
        self.is_open = has_open(result)


def looked_up(scope, term):
    """The telescope and kind wanted of a family, shape or call; None of a name that the Scope hasn't."""
    word, name = term[:2]
    if word == "call":
        definition = definition_of(scope, name)
        return None if definition is None else Wanted(definition[1], definition[2])
    family = family_of(scope, name)
    if family is None:
        return None
    params, indexes, world, shapes = family[2:]
    if word == "family":
        return Wanted(params + indexes, ("world", world))
    shape = shape_of(family, term[2])
    if shape is None:
        return None
    kind = ("family", name, own_names(len(params), len(shape[1])) + shape[2])
    return Wanted(params + shape[1], kind)


def wanted_of(scope, term):
    """As looked_up, which each name is but once."""
    key = term[:3] if term[0] == "shape" else term[:2]
    found = scope.wanted.get(key)
    if found is None:
        found = looked_up(scope, term)
        if found is not None:
            scope.wanted[key] = found
    return found


def body_measured(scope, name, row):
    """How great and deep the body of a definition's row is."""
    key = (name, row)
    found = scope.measured.get(key)
    if found is None:
        found = Measured(definition_of(scope, name)[4][row][1])
        scope.measured[key] = found
    return found
