"""Families judged: their telescopes, and that their shapes hold them only where they may."""

from kindsbyworth.bench import Bench
from kindsbyworth.errors import Holds, Unjudged
from kindsbyworth.judges import fitted, kind_of_world
from kindsbyworth.lookups import own_names
from kindsbyworth.putting import put_in
from kindsbyworth.terms import parts_of


def telescope_told(bench, telescope, around):
    """A tuple of (paper, way) for each kind, those ahead around it; Unjudged."""
    told = []
    for pair in telescope:
        paper, way, _ = kind_of_world(bench, pair[1], around, ())
        told.append((paper, way))
        around = around + (pair,)
    return tuple(told)


def has_family(term, name):
    """Whether the family of this name, or a shape of it, stands in the term."""
    left = [term]
    while left:
        here = left.pop()
        if here[0] in ("family", "shape") and here[1] == name:
            return True
        left.extend(parts_of(here))
    return False


def is_held_well(family, kind, ahead):
    """Whether the kind of an argument, so many of its shape's ahead, has the family only as its end."""
    name, many = family[1], len(family[2])
    while kind[0] == "to":
        if has_family(kind[2], name):
            return False
        kind = kind[3]
        ahead = ahead + 1
    if kind[0] != "family" or kind[1] != name:
        return not has_family(kind, name)
    if kind[2][:many] != own_names(many, ahead):
        return False
    return not any([has_family(term, name) for term in kind[2][many:]])


def argument_told(bench, family, shape, k):
    """(paper, way, held) of an argument of a shape; Unjudged, Holds."""
    kind = shape[1][k][1]
    paper, way, world = kind_of_world(bench, kind, family[2] + shape[1][:k], ())
    if world > family[4]:
        raise Unjudged((), "high")
    held, outcome = bench.outcome(kind)
    if not is_held_well(family, outcome, k):
        raise Holds(shape[0], k)
    return paper, way, held


def end_told(bench, family, shape, j):
    """The fit of an end of a shape; Unjudged, Holds."""
    arguments, end = shape[1], shape[2][j]
    ahead = own_names(len(family[2]), len(arguments)) + shape[2][:j]
    given = fitted(bench, end, put_in(family[3][j][1], ahead), family[2] + arguments, "gone", ())
    if has_family(end, family[1]):
        raise Holds(shape[0], len(arguments) + j)
    return given


def shape_told(bench, family, shape):
    """The paper of a shape: of its arguments, of its ends."""
    arguments = tuple([argument_told(bench, family, shape, k) for k in range(len(shape[1]))])
    return arguments, tuple([end_told(bench, family, shape, j) for j in range(len(shape[2]))])


def family_told(scope, family, most):
    """The paper of a family: of its params, of its indexes, of its shapes."""
    bench = Bench(scope, most)
    params = telescope_told(bench, family[2], ())
    indexes = telescope_told(bench, family[3], family[2])
    inner = Bench(scope.grown((family,)), most)
    return params, indexes, tuple([shape_told(inner, family, shape) for shape in family[5]])
