"""Lots judged as far as the bodies of their rows."""

from kindsbyworth.bench import HOLE_SIGN, Bench
from kindsbyworth.errors import NoItem, Taken
from kindsbyworth.families import telescope_told
from kindsbyworth.items import holes_of, is_item, names_of
from kindsbyworth.judges import kind_of_world
from kindsbyworth.lifting import lifted_with
from kindsbyworth.rows import row_told


def refuse_item(scope, item):
    """NoItem of what is none; Taken of the first of its names, then of its holes, that is there."""
    if not is_item(item):
        raise NoItem("this is no item")
    for name in names_of(item) + holes_of(item):
        if name in scope.homes:
            raise Taken(name)


def waiting(lot):
    """The lot without rows, so that all its calls wait."""
    return ("lot", tuple([definition[:4] + ((),) for definition in lot[1]]))


class LotTold:
    """What is told of a lot as far as its rows: papers of heads and rows, its waiting Scope, its wishes."""

    def __init__(self, scope, lot, most):
        outer = Bench(scope, most)
        self.heads = [head_told(outer, definition) for definition in lot[1]]
        self.scope = scope.grown((waiting(lot),))
        bench = Bench(self.scope, most)
        self.rows = [rows_told(bench, definition) for definition in lifted_with(lot, HOLE_SIGN)[1]]
        self.noted = bench.noted


def head_told(bench, definition):
    """The papers of a definition's telescope and result; Unjudged."""
    telescope = telescope_told(bench, definition[1], ())
    paper, way, _ = kind_of_world(bench, definition[2], definition[1], ())
    return telescope, (paper, way)


def rows_told(bench, definition):
    """The papers of a definition's rows; NoRow, Unjudged."""
    return tuple([row_told(bench, definition, number) for number in range(len(definition[4]))])
