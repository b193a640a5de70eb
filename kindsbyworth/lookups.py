"""What a Scope has under a name."""


def family_of(scope, name):
    """The family of this name, None where there is none."""
    return scope.families.get(name)


def definition_of(scope, name):
    """The definition of this name, None where there is none."""
    return scope.definitions.get(name)


def shape_of(family, name):
    """The family's shape of this name, None where it has none."""
    for shape in family[5]:
        if shape[0] == name:
            return shape
    return None
