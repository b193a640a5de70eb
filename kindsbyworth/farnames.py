"""Far names: the pictures that they are of, and near names made far."""

from kindsbyworth.lifting import with_bodies
from kindsbyworth.terms import is_far, with_nodes
from kindsbyworth.used import item_terms, names_in_terms


def far_pairs(items):
    """The (library, number) of the pictures whose names stand in these items, as often as they do."""
    found = []
    for item in items:
        for name in names_in_terms(item_terms(item)):
            if is_far(name):
                library, number, _ = name.split(".")
                found.append((library, int(number)))
    return found


def far_name(name, ahead):
    """A near name made far; a far one as it is."""
    return name if is_far(name) else ahead + name


def far_term(term, ahead):
    """The term with all near names made far."""
    def changed(part):
        if part[0] in ("family", "shape", "call"):
            return (part[0], far_name(part[1], ahead)) + part[2:]
        return part

    return with_nodes(term, changed)


def far_telescope(telescope, ahead):
    """The telescope with all near names made far."""
    return tuple([(mark, far_term(kind, ahead)) for mark, kind in telescope])


def far_family(family, ahead):
    """The family with all near names made far, but its shapes' own."""
    name, params, indexes, world, shapes = family[1:]
    told = tuple([
        (shape, far_telescope(arguments, ahead), tuple([far_term(end, ahead) for end in ends]))
        for shape, arguments, ends in shapes
    ])
    return ("family", far_name(name, ahead), far_telescope(params, ahead), far_telescope(indexes, ahead), world, told)


def far_lot(lot, ahead):
    """The lot with all near names made far."""
    changed = with_bodies(lot, lambda patterns, body: far_term(body, ahead))
    return ("lot", tuple([
        (far_name(name, ahead), far_telescope(telescope, ahead), far_term(result, ahead), less, rows)
        for name, telescope, result, less, rows in changed[1]
    ]))


def made_far(items, ahead):
    """The items with all near names made far by what stands ahead of them then."""
    return tuple([far_family(item, ahead) if item[0] == "family" else far_lot(item, ahead) for item in items])
