"""The smaller judge of terms: it reads papers, and reckons nothing.

It goes single steps, shifts, puts in and compares; papers are of anything.
"""

from kindsbyworth.bench import at_kind, wanted_of
from kindsbyworth.errors import Unjudged
from kindsbyworth.putting import put_in
from kindsbyworth.sameness import are_same
from kindsbyworth.steps import walked


class Reader:
    """What the smaller judge goes by: a Scope, and a dict of the open items whose calls it lets."""

    def __init__(self, scope, opens):
        self.scope = scope
        self.opens = opens


def is_told(thing, many):
    """Whether it is a tuple of so many."""
    return isinstance(thing, tuple) and len(thing) == many


def meets(scope, one, way, other, further):
    """Whether the ways lead both terms to one."""
    first = walked(scope, one, way)
    return first is not None and are_same(first, walked(scope, other, further))


def number_by(reader, kind, thing, way, around):
    """The number of the world of a kind, by the paper and the way; None of what are none."""
    judged = told_by(reader, kind, thing, around, "gone")
    if judged is None:
        return None
    world = walked(reader.scope, judged, way)
    return world[1] if world is not None and world[0] == "world" else None


def to_by(reader, term, thing, around):
    """The kind of a to."""
    if not is_told(thing, 4):
        return None
    first = number_by(reader, term[2], thing[0], thing[1], around)
    if first is None:
        return None
    second = number_by(reader, term[3], thing[2], thing[3], around + (term[1:3],))
    return None if second is None else ("world", max(first, second))


def fun_by(reader, term, thing, around, manner):
    """The kind of a fun."""
    if not is_told(thing, 3) or number_by(reader, term[2], thing[0], thing[1], around) is None:
        return None
    body = told_by(reader, term[3], thing[2], around + (term[1:3],), manner)
    return None if body is None else ("to", term[1], term[2], body)


def give_by(reader, term, thing, around, manner):
    """The kind of a give."""
    if not is_told(thing, 3):
        return None
    mark, function, argument = term[1:]
    judged = told_by(reader, function, thing[0], around, manner)
    if judged is None:
        return None
    wanted = walked(reader.scope, judged, thing[1])
    if wanted is None or wanted[0] != "to" or wanted[1] != mark:
        return None
    inner = "gone" if mark == "gone" else manner
    if not fits_by(reader, argument, wanted[2], thing[2], around, inner):
        return None
    return put_in(wanted[3], (argument,))


def wanted_by(reader, term):
    """The telescope that a term's parts fit, and its kind, those around it; None of no name."""
    if term[0] == "call" and term[1] in reader.opens:
        return reader.opens[term[1]][2:]
    try:
        return wanted_of(reader.scope, term, ())
    except Unjudged:
        return None


def table_by(reader, term, thing, around, manner):
    """The kind of a family, shape or call."""
    wanted = wanted_by(reader, term)
    if wanted is None:
        return None
    telescope, told = wanted
    parts = term[-1]
    if len(parts) != len(telescope) or not is_told(thing, len(parts)):
        return None
    for at, (mark, kind) in enumerate(telescope):
        inner = "gone" if mark == "gone" else manner
        if not fits_by(reader, parts[at], put_in(kind, parts[:at]), thing[at], around, inner):
            return None
    return put_in(told, parts)


def leaf_by(term, around, manner):
    """The kind of a name or a world."""
    if term[0] == "world":
        return None if term[1] == 9 else ("world", term[1] + 1)
    try:
        return at_kind(term, around, manner, ())
    except Unjudged:
        return None


def told_by(reader, term, thing, around, manner):
    """The kind of a term by a paper; None where it is no paper of it."""
    word = term[0]
    if word == "at" or word == "world":
        return leaf_by(term, around, manner) if is_told(thing, 0) else None
    if word == "to":
        return to_by(reader, term, thing, around)
    if word == "fun":
        return fun_by(reader, term, thing, around, manner)
    if word == "give":
        return give_by(reader, term, thing, around, manner)
    if word == "hole":
        return None
    return table_by(reader, term, thing, around, manner)


def is_under(reader, term, kind, thing, around, manner):
    """Whether a fun fits beneath a to, by what is told of it."""
    way, paper, other, left, right, given = thing[1:]
    wanted = walked(reader.scope, kind, way)
    if term[0] != "fun" or wanted is None or wanted[0] != "to" or wanted[1] != term[1]:
        return False
    if number_by(reader, term[2], paper, other, around) is None:
        return False
    if not meets(reader.scope, term[2], left, wanted[2], right):
        return False
    return fits_by(reader, term[3], wanted[3], given, around + (term[1:3],), manner)


def fits_by(reader, term, kind, thing, around, manner):
    """Whether it is a fit of the term and the kind."""
    if is_told(thing, 4) and thing[0] == "as":
        judged = told_by(reader, term, thing[1], around, manner)
        return judged is not None and meets(reader.scope, judged, thing[2], kind, thing[3])
    if is_told(thing, 7) and thing[0] == "under":
        return is_under(reader, term, kind, thing, around, manner)
    return False
