"""Holes of lots: what is wanted there, and what comes there."""

from kindsbyworth.bench import HOLE_SIGN, is_held
from kindsbyworth.lifting import lifted_with, with_hole_filled
from kindsbyworth.limits import MOST
from kindsbyworth.lots import LotTold, refuse_item
from kindsbyworth.terms import with_nodes


def lifted(item):
    """The lot with a call of all names around in the place of each hole; a family as it is."""
    return lifted_with(item, "")


def unsigned(part):
    """A call that stands in a hole's place as one of the open item; another part as it is."""
    return ("call", part[1][len(HOLE_SIGN):], part[2]) if is_held(part) else part


def plain_row(row):
    """A noted wish with plain calls of the open items."""
    name, around, manner, wish = row
    telescope = tuple([(mark, with_nodes(kind, unsigned)) for mark, kind in around])
    return name, telescope, manner, with_nodes(wish, unsigned)


def plain_rows(noted):
    """The rows of noted wishes, a dict by names, with plain calls of the open items, by names, rising."""
    return tuple([plain_row(noted[name]) for name in sorted(list(noted))])


def wishes(scope, item, *, most=MOST):
    """Rows (name, around, manner, wish) for the item's holes, by names, rising; refused as its rows are."""
    refuse_item(scope, item)
    if item[0] == "family":
        return ()
    return plain_rows(LotTold(scope, item, most).noted)


def opened(rows):
    """The open items of wishes."""
    return tuple([("open", name, around, wish) for name, around, manner, wish in rows])


def filled(item, hole, term):
    """The lot with the term in the hole's place."""
    return with_hole_filled(item, hole, term)
