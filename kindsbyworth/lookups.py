"""What a Scope has under a name."""

from kindsbyworth.errors import NoName


def family_of(scope, name):
    """The family of this name, None where there is none."""
    try:
        item = scope.item_of(name)
    except NoName:
        return None
    return item if item[0] == "family" else None


def definition_of(scope, name):
    """The definition of this name, None where there is none."""
    try:
        item = scope.item_of(name)
    except NoName:
        return None
    if item[0] != "lot":
        return None
    return [definition for definition in item[1] if definition[0] == name][0]


def shape_of(family, name):
    """The family's shape of this name, None where it has none."""
    for shape in family[5]:
        if shape[0] == name:
            return shape
    return None
