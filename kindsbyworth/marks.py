"""Marks of terms' parts, as a Scope's items tell them."""

from kindsbyworth.lookups import definition_of, family_of, shape_of


def call_marks(scope, name):
    """The marks of a call's terms, of an open item too."""
    definition = definition_of(scope, name)
    telescope = scope.homes[name][2] if definition is None else definition[1]
    return [mark for mark, kind in telescope]


def shape_marks(scope, name, shape):
    """The marks of a shape's terms, those of its family's params ahead."""
    family = family_of(scope, name)
    return [mark for mark, kind in family[2] + shape_of(family, shape)[1]]
