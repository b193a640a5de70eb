"""Holes of items: what is put in their places."""

from kindsbyworth.patterns import takes_in
from kindsbyworth.terms import with_holes


def with_bodies(item, changed):
    """The lot with changed(patterns, body) in the place of each row's body; a family as it is."""
    if item[0] == "family":
        return item
    return ("lot", tuple([
        definition[:4] + (tuple([(patterns, changed(patterns, body)) for patterns, body in definition[4]]),)
        for definition in item[1]
    ]))


def lifted_with(item, sign):
    """The lot with a call in each hole's place, its name behind the sign, of all names around it."""
    def lifted_body(patterns, body):
        takes = takes_in(patterns)

        def lifted_hole(name, bodies):
            many = takes + bodies
            return ("call", sign + name, tuple([("at", many - 1 - place) for place in range(many)]))

        return with_holes(body, lifted_hole)

    return with_bodies(item, lifted_body)


def with_hole_filled(item, hole, term):
    """The lot with the term in the hole's place, names around it as they are."""
    def filled_body(patterns, body):
        return with_holes(body, lambda name, bodies: term if name == hole else ("hole", name))

    return with_bodies(item, filled_body)
