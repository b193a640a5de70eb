"""Open names split by the shapes of their families, and branches that are closed so."""

from kindsbyworth.lookups import family_of
from kindsbyworth.putting import put_in


def shaped(names, number, head, shape):
    """Names behind a split, where the name is of this shape of what its kind came to, and the equations of this."""
    made = names.twin()
    many = len(head[2]) - len(shape[2])
    terms = head[2][:many]
    for mark, kind in shape[1]:
        own = "gone" if names.told[number][0] == "gone" else mark
        terms = terms + (made.named(own, put_in(kind, terms), True),)
    made.solve(number, ("shape", head[1], shape[0], terms))
    return made, [(index, put_in(end, terms)) for index, end in zip(head[2][many:], shape[2])]


def with_shape(names, number, head, shape):
    """Names behind a split, and the moves done for it."""
    made, equations = shaped(names, number, head, shape)
    return made, made.go_through(equations)


def split_told(names, number):
    """The way of a name's kind to a family, and [(names, moves)] for each shape; None of another kind."""
    way, head = names.bench.head(names.kind(number))
    if head[0] != "family":
        return None
    shapes = family_of(names.bench.scope, head[1])[5]
    return way, [with_shape(names, number, head, shape) for shape in shapes]


def closed_by(names, number):
    """The tree of a branch that this run name closes, None where it doesn't."""
    way, head = names.bench.head(names.kind(number))
    if head[0] != "family":
        return None
    family = family_of(names.bench.scope, head[1])
    indexes, shapes = family[3], family[5]
    # Without indexes there are no equations, so no shape comes to never.
    if shapes and not indexes:
        return None
    branches = []
    for shape in shapes:
        made, moves = with_shape(names, number, head, shape)
        if not made.is_never:
            return None
        branches.append(moves)
    return ("empty", number, way, tuple(branches))


def emptied(names):
    """The tree of a branch that some run name closes, None where none does."""
    for number in names.unsolved():
        if names.told[number][0] == "run":
            tree = closed_by(names, number)
            if tree is not None:
                return tree
    return None
