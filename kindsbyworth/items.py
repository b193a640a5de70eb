"""Telescopes, families, patterns, definitions, lots: what they are by form."""

from kindsbyworth.terms import is_count, is_mark, is_name, is_near_or_far, told_holes

HIGHEST_FAMILY = 8


def is_whole(thing):
    """Whether it is a term without holes."""
    return told_holes(thing) == []


def is_telescope(thing):
    """Whether it is a tuple of (mark, kind), no kind with a hole."""
    if not isinstance(thing, tuple):
        return False
    return all([
        isinstance(pair, tuple) and len(pair) == 2 and is_mark(pair[0]) and is_whole(pair[1])
        for pair in thing
    ])


def is_gone_telescope(thing):
    """Whether it is a telescope all marks of which are gone."""
    return is_telescope(thing) and all([mark == "gone" for mark, kind in thing])


def are_unlike(names):
    """Whether no name is there twice."""
    return len(set(names)) == len(names)


def is_shape(thing, many):
    """Whether it is a family's shape, with as many ends as there are indexes."""
    if not isinstance(thing, tuple) or len(thing) != 3:
        return False
    name, arguments, ends = thing
    if not is_name(name) or not is_telescope(arguments) or not isinstance(ends, tuple):
        return False
    return len(ends) == many and all([is_whole(end) for end in ends])


def is_family(thing):
    """Whether it is a family."""
    if not isinstance(thing, tuple) or len(thing) != 6 or thing[0] != "family":
        return False
    name, params, indexes, world, shapes = thing[1:]
    if not is_near_or_far(name) or not is_gone_telescope(params) or not is_gone_telescope(indexes):
        return False
    if not is_count(world) or world > HIGHEST_FAMILY or not isinstance(shapes, tuple):
        return False
    if not all([is_shape(shape, len(indexes)) for shape in shapes]):
        return False
    return are_unlike([shape[0] for shape in shapes])


def is_pattern(thing):
    """Whether it is a pattern; as deep as patterns may stand, so no call of itself."""
    left = [thing]
    while left:
        here = left.pop()
        if here == ("take",) or here == ("due",):
            continue
        if not isinstance(here, tuple) or len(here) != 3 or here[0] != "shape":
            return False
        if not is_name(here[1]) or not isinstance(here[2], tuple):
            return False
        left.extend(here[2])
    return True


def row_holes(thing, many):
    """The names of the holes of a row of so many patterns; None of what is none."""
    if not isinstance(thing, tuple) or len(thing) != 2 or not isinstance(thing[0], tuple):
        return None
    patterns, body = thing
    if len(patterns) != many or not all([is_pattern(pattern) for pattern in patterns]):
        return None
    return told_holes(body)


def definition_holes(thing):
    """The names of the holes of a definition, as often as they stand; None of what is none."""
    if not isinstance(thing, tuple) or len(thing) != 5:
        return None
    name, telescope, result, less, rows = thing
    if not is_near_or_far(name) or not is_telescope(telescope) or not is_whole(result):
        return None
    if less is not None and not (is_count(less) and less < len(telescope)):
        return None
    if not isinstance(rows, tuple):
        return None
    found = []
    for row in rows:
        holes = row_holes(row, len(telescope))
        if holes is None:
            return None
        found.extend(holes)
    return found


def is_lot(thing):
    """Whether it is a lot."""
    if not isinstance(thing, tuple) or len(thing) != 2 or thing[0] != "lot":
        return False
    definitions = thing[1]
    if not isinstance(definitions, tuple) or not definitions:
        return False
    names = []
    for definition in definitions:
        holes = definition_holes(definition)
        if holes is None:
            return False
        names.append(definition[0])
        names.extend(holes)
    return are_unlike(names)


def is_item(thing):
    """Whether it is an item, of anything."""
    return is_family(thing) or is_lot(thing)


def is_open_item(thing):
    """Whether it is an open item, as a Scope may have one for a hole."""
    if not isinstance(thing, tuple) or len(thing) != 4 or thing[0] != "open":
        return False
    return is_name(thing[1]) and is_telescope(thing[2]) and is_whole(thing[3])


def names_of(item):
    """The names of an item, in order; the name of an open one."""
    if item[0] == "lot":
        return tuple([definition[0] for definition in item[1]])
    return (item[1],)


def holes_of(item):
    """The names of an item's holes, rising."""
    if item[0] != "lot":
        return ()
    return tuple(sorted([
        hole for definition in item[1] for patterns, body in definition[4] for hole in told_holes(body)
    ]))
