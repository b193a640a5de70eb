"""Closed terms for open names: what of their kinds is plain."""

from kindsbyworth.lookups import family_of
from kindsbyworth.putting import put_in, shifted
from kindsbyworth.splits import with_shape
from kindsbyworth.terms import is_open

# What has no end is given up behind so many new names.
MOST_NEW = 40


def family_in(bench):
    """A family of the lowest world that has neither params nor indexes, None where there is none."""
    for item in bench.scope.all_items:
        if item[0] == "family" and item[2:5] == ((), (), 0):
            return ("family", item[1], ())
    return None


def with_world(names, number, head):
    """Names where this one is solved by something of a world; None where nothing is plain."""
    term = family_in(names.bench) if head[1] == 0 else ("world", head[1] - 1)
    if term is None:
        return None
    names.solve(number, term)
    return names


def with_fun(names, number, head):
    """Names where this one is solved by a fun whose body is a new one; None where its kind needs the argument."""
    if is_open(head[3], 0):
        return None
    body = names.named("run", put_in(head[3], (head[2],)), True)
    names.solve(number, ("fun", head[1], head[2], shifted(body, 1)))
    return names


def with_some_shape(names, number, head):
    """Names where this one is of a shape of its family, one without arguments where there is such a one."""
    shapes = family_of(names.bench.scope, head[1])[5]
    for shape in [shape for shape in shapes if not shape[1]] + [shape for shape in shapes if shape[1]]:
        made, _ = with_shape(names, number, head, shape)
        if not made.is_never and not made.left:
            return made
    return None


def has_indexes(names, head):
    """Whether it is of a family with indexes."""
    return head[0] == "family" and len(family_of(names.bench.scope, head[1])[3]) > 0


def heads_of(names):
    """(number, head of its kind) for each name that isn't solved, those of families with indexes first."""
    heads = [(number, names.bench.head(names.kind(number))[1]) for number in names.unsolved()]
    first = [pair for pair in heads if has_indexes(names, pair[1])]
    return first + [pair for pair in heads if not has_indexes(names, pair[1])]


def filled_names(names):
    """These names with all that are open solved by closed terms, None where a kind has no plain one."""
    made = names.twin()
    while made is not None and made.unsolved():
        number, head = heads_of(made)[0]
        if len(made.told) > len(names.told) + MOST_NEW:
            return None
        if head[0] == "world":
            made = with_world(made, number, head)
        elif head[0] == "to":
            made = with_fun(made, number, head)
        elif head[0] == "family":
            made = with_some_shape(made, number, head)
        else:
            return None
    return made
