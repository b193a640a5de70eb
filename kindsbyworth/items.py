"""Telescopes, families, patterns, definitions, lots: what they are by form.

Scopes ask this of many items; so the frame of an item is gone through first,
and its terms, and its patterns, then all at once.
"""

from kindsbyworth.terms import is_count, is_mark, is_name, is_near_or_far, told_holes

HIGHEST_FAMILY = 8


def are_whole(things):
    """Whether all are terms without holes."""
    return told_holes(things) == []


def are_unlike(names):
    """Whether no name is there twice."""
    return len(set(names)) == len(names)


def kinds_of(thing):
    """What stands for kinds in a tuple of (mark, kind); None of anything else."""
    if not isinstance(thing, tuple):
        return None
    kinds = []
    for pair in thing:
        if not isinstance(pair, tuple) or len(pair) != 2 or not is_mark(pair[0]):
            return None
        kinds.append(pair[1])
    return kinds


def gone_kinds(thing):
    """As kinds_of, but None where a mark isn't gone, too."""
    kinds = kinds_of(thing)
    return None if kinds is None or [pair for pair in thing if pair[0] != "gone"] else kinds


def shape_terms_of(thing, many):
    """What stands for terms in a family's shape, with as many ends as there are indexes; None of what is none."""
    if not isinstance(thing, tuple) or len(thing) != 3:
        return None
    name, arguments, ends = thing
    kinds = kinds_of(arguments)
    if not is_name(name) or kinds is None or not isinstance(ends, tuple) or len(ends) != many:
        return None
    return kinds + list(ends)


def is_family(thing):
    """Whether it is a family."""
    if not isinstance(thing, tuple) or len(thing) != 6 or thing[0] != "family":
        return False
    name, params, indexes, world, shapes = thing[1:]
    if not is_near_or_far(name) or not is_count(world) or world > HIGHEST_FAMILY or not isinstance(shapes, tuple):
        return False
    of_params, of_indexes = gone_kinds(params), gone_kinds(indexes)
    if of_params is None or of_indexes is None:
        return False
    terms = of_params + of_indexes
    for shape in shapes:
        of_shape = shape_terms_of(shape, len(indexes))
        if of_shape is None:
            return False
        terms.extend(of_shape)
    return are_unlike([shape[0] for shape in shapes]) and are_whole(terms)


def are_patterns(things):
    """Whether all are patterns; as deep as patterns may stand, so no call of itself."""
    left = list(things)
    while left:
        here = left.pop()
        if here == ("take",) or here == ("due",):
            continue
        if not isinstance(here, tuple) or len(here) != 3 or here[0] != "shape":
            return False
        if not is_name(here[1]) or not isinstance(here[2], tuple):
            return False
        left.extend(here[2])
    return True


def row_frames(thing, many):
    """(patterns, bodies) of what are rows of so many patterns, if these are such; None of anything else."""
    if not isinstance(thing, tuple):
        return None
    patterns, bodies = [], []
    for row in thing:
        if not isinstance(row, tuple) or len(row) != 2 or not isinstance(row[0], tuple) or len(row[0]) != many:
            return None
        patterns.extend(row[0])
        bodies.append(row[1])
    return patterns, bodies


def definition_holes(thing):
    """The names of the holes of a definition, as often as they stand; None of what is none."""
    if not isinstance(thing, tuple) or len(thing) != 5:
        return None
    name, telescope, result, less, rows = thing
    kinds = kinds_of(telescope)
    if not is_near_or_far(name) or kinds is None:
        return None
    if less is not None and not (is_count(less) and less < len(telescope)):
        return None
    frames = row_frames(rows, len(telescope))
    if frames is None or not are_patterns(frames[0]) or not are_whole(kinds + [result]):
        return None
    return told_holes(frames[1])


def is_lot(thing):
    """Whether it is a lot."""
    if not isinstance(thing, tuple) or len(thing) != 2 or thing[0] != "lot":
        return False
    definitions = thing[1]
    if not isinstance(definitions, tuple) or not definitions:
        return False
    names = []
    for definition in definitions:
        holes = definition_holes(definition)
        if holes is None:
            return False
        names.append(definition[0])
        names.extend(holes)
    return are_unlike(names)


def is_item(thing):
    """Whether it is an item, of anything."""
    return is_family(thing) or is_lot(thing)


def is_open_item(thing):
    """Whether it is an open item, as a Scope may have one for a hole."""
    if not isinstance(thing, tuple) or len(thing) != 4 or thing[0] != "open":
        return False
    kinds = kinds_of(thing[2])
    return is_name(thing[1]) and kinds is not None and are_whole(kinds + [thing[3]])


def names_of(item):
    """The names of an item, in order; the name of an open one."""
    if item[0] == "lot":
        return tuple([definition[0] for definition in item[1]])
    return (item[1],)


def holes_of(item):
    """The names of an item's holes, rising."""
    if item[0] != "lot":
        return ()
    return tuple(sorted(told_holes([body for definition in item[1] for patterns, body in definition[4]])))
