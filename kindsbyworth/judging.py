"""Items judged, with their papers."""

from kindsbyworth.bench import Bench
from kindsbyworth.covers import cover_told
from kindsbyworth.ends import ends_of
from kindsbyworth.errors import Idle, Lacks, Unclear
from kindsbyworth.families import family_told
from kindsbyworth.holes import plain_rows
from kindsbyworth.limits import MOST
from kindsbyworth.lots import LotTold, refuse_item


def tree_told(bench, definition):
    """The tree of a cover; Lacks, Unclear, Idle."""
    told = cover_told(bench, definition)
    if told[0] == "lacks":
        raise Lacks(definition[0], told[1])
    if told[0] == "unclear":
        raise Unclear(definition[0])
    if told[2]:
        raise Idle(definition[0], told[2][0])
    return told[1]


def lot_told(scope, lot, most):
    """The paper of a lot, of each definition (telescope, result, number, rows, tree), and the rows of its wishes."""
    told = LotTold(scope, lot, most)
    numbers = ends_of(lot[1])
    bench = Bench(told.scope, most)
    trees = [tree_told(bench, definition) for definition in lot[1]]
    paper = tuple([
        (head[0], head[1], number, rows, tree)
        for head, number, rows, tree in zip(told.heads, numbers, told.rows, trees)
    ])
    return paper, plain_rows(told.noted)


def item_told(scope, item, most):
    """A paper of the item, and the rows of its wishes; refused where the Scope doesn't let it by."""
    refuse_item(scope, item)
    if item[0] == "family":
        return family_told(scope, item, most), ()
    return lot_told(scope, item, most)


def judged(scope, item, *, most=MOST):
    """A paper of the item; refused where the Scope doesn't let it by."""
    return item_told(scope, item, most)[0]
