"""The smaller judge of items: it reads their papers, and reckons nothing."""

from kindsbyworth.ends import calls_of
from kindsbyworth.families import has_family, is_held_well
from kindsbyworth.items import holes_of, is_item, names_of
from kindsbyworth.lookups import own_names
from kindsbyworth.lots import waiting
from kindsbyworth.putting import put_in
from kindsbyworth.reading import Reader, fits_by, is_told, told_by, world_by
from kindsbyworth.rowreading import row_by
from kindsbyworth.terms import is_count
from kindsbyworth.treereading import tree_by


def kind_world_by(reader, kind, pair, around):
    """The number of the world of a kind by its (paper, way); None where that is none."""
    if not is_told(pair, 2):
        return None
    return world_by(reader, told_by(reader, kind, pair[0], around, "gone"), pair[1])


def telescope_by(reader, telescope, thing, around):
    """Whether these are papers of a telescope's kinds, names around it."""
    if not is_told(thing, len(telescope)):
        return False
    for at, pair in enumerate(telescope):
        if kind_world_by(reader, pair[1], thing[at], around + telescope[:at]) is None:
            return False
    return True


def argument_by(reader, family, shape, k, thing):
    """Whether it is the (paper, way, held) of an argument of a shape."""
    if not is_told(thing, 3):
        return False
    kind = shape[1][k][1]
    world = kind_world_by(reader, kind, thing[:2], family[2] + shape[1][:k])
    if world is None or world > family[4]:
        return False
    held = reader.walked(kind, thing[2])
    return held is not None and is_held_well(family, held, k)


def end_by(reader, family, shape, j, thing):
    """Whether it is the fit of an end of a shape, which hasn't the family."""
    arguments, end = shape[1], shape[2][j]
    ahead = own_names(len(family[2]), len(arguments)) + shape[2][:j]
    wanted = put_in(family[3][j][1], ahead)
    return not has_family(end, family[1]) and fits_by(reader, end, wanted, thing, family[2] + arguments, "gone")


def shape_by(reader, family, shape, thing):
    """Whether it is the (arguments, ends) of a shape."""
    if not is_told(thing, 2) or not is_told(thing[0], len(shape[1])) or not is_told(thing[1], len(shape[2])):
        return False
    for k, told in enumerate(thing[0]):
        if not argument_by(reader, family, shape, k, told):
            return False
    for j, told in enumerate(thing[1]):
        if not end_by(reader, family, shape, j, told):
            return False
    return True


def family_by(reader, family, thing):
    """Whether it is a paper of the family."""
    if not is_told(thing, 3) or not is_told(thing[2], len(family[5])):
        return False
    if not telescope_by(reader, family[2], thing[0], ()):
        return False
    if not telescope_by(reader, family[3], thing[1], family[2]):
        return False
    inner = reader.beside(reader.scope.grown((family,)), {})
    for shape, told in zip(family[5], thing[2]):
        if not shape_by(inner, family, shape, told):
            return False
    return True


def head_by(reader, definition, thing):
    """Whether what may be the paper of a definition is so as far as its telescope and result."""
    if not is_told(thing, 5) or not telescope_by(reader, definition[1], thing[0], ()):
        return False
    return kind_world_by(reader, definition[2], thing[1], definition[1]) is not None


def are_ends_by(definitions, numbers):
    """Whether the calls of these end by these numbers, of anything."""
    if not all([is_count(number) for number in numbers]):
        return False
    levels = {definition[0]: number for definition, number in zip(definitions, numbers)}
    for caller, row, called, word in calls_of(definitions):
        if word == "none" or (word == "stays" and levels[called] >= levels[caller]):
            return False
    return True


def rows_by(reader, definition, thing):
    """Whether what may be the paper of a definition is so of its rows and tree."""
    if not is_told(thing[3], len(definition[4])):
        return False
    for number, told in enumerate(thing[3]):
        if not row_by(reader, definition, number, told):
            return False
    return tree_by(reader, definition, thing[4])


def last_open(scope):
    """A dict of the open items with which a Scope ends."""
    found = {}
    for item in reversed(scope.all_items):
        if item[0] != "open":
            break
        found[item[1]] = item
    return found


def lot_by(reader, lot, thing):
    """Whether it is a paper of the lot."""
    definitions = lot[1]
    if not is_told(thing, len(definitions)):
        return False
    for definition, told in zip(definitions, thing):
        if not head_by(reader, definition, told):
            return False
    if not are_ends_by(definitions, [told[2] for told in thing]):
        return False
    inner = reader.beside(reader.scope.grown((waiting(lot),)), last_open(reader.scope))
    for definition, told in zip(definitions, thing):
        if not rows_by(inner, definition, told):
            return False
    return True


def item_by(scope, item, thing):
    """A dict whose keys are the names that the item's paper unfolds; None of what is none of it, of anything."""
    if not is_item(item) or holes_of(item):
        return None
    if [name for name in names_of(item) if name in scope.homes]:
        return None
    reader = Reader(scope, {})
    holds = family_by(reader, item, thing) if item[0] == "family" else lot_by(reader, item, thing)
    return reader.noted if holds else None
