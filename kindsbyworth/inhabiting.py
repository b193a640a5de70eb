"""Closed terms for open names: a first thing of a kind, where one is plain."""

from kindsbyworth.lookups import family_of
from kindsbyworth.putting import put_in


def family_in(bench):
    """A family of the lowest world that has neither params nor indexes, None where there is none."""
    for item in bench.scope.all_items:
        if item[0] == "family" and item[2:5] == ((), (), 0):
            return ("family", item[1], ())
    return None


def shape_in(bench, head):
    """A shape without arguments of a family, None where there is none."""
    many = len(family_of(bench.scope, head[1])[2])
    params, indexes = head[2][:many], head[2][many:]
    for name, arguments, ends in family_of(bench.scope, head[1])[5]:
        if arguments:
            continue
        ways = [bench.alike(index, put_in(end, params)) for index, end in zip(indexes, ends)]
        if None not in ways:
            return ("shape", head[1], name, params)
    return None


def first_in(bench, kind):
    """A term of this kind, None where none is plain."""
    head = bench.head(kind)[1]
    if head[0] == "world":
        return family_in(bench) if head[1] == 0 else ("world", head[1] - 1)
    if head[0] == "family":
        return shape_in(bench, head)
    if head[0] == "to":
        body = first_in(bench, head[3])
        return None if body is None else ("fun", head[1], head[2], body)
    return None


def filled_names(names):
    """These names with all that are open solved by closed terms, None where a kind has no plain one."""
    made = names.twin()
    for number in names.unsolved():
        term = first_in(names.bench, made.kind(number))
        if term is None:
            return None
        made.solve(number, term)
    return made
