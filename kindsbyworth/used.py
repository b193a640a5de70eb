"""What an item hangs on: the names that it reads, and those that its paper unfolds."""

from kindsbyworth.itemreading import item_by
from kindsbyworth.items import names_of
from kindsbyworth.lookups import definition_of, family_of
from kindsbyworth.terms import parts_of


def names_in_terms(terms):
    """The names of families and calls in these terms, as often as they stand."""
    found = []
    left = list(terms)
    while left:
        here = left.pop()
        if here[0] in ("family", "shape", "call"):
            found.append(here[1])
        left.extend(parts_of(here))
    return found


def kinds_in(telescope):
    """The kinds of a telescope."""
    return [kind for mark, kind in telescope]


def family_terms(family):
    """All terms of a family."""
    terms = kinds_in(family[2] + family[3])
    for name, arguments, ends in family[5]:
        terms.extend(kinds_in(arguments) + list(ends))
    return terms


def head_terms(definition):
    """The terms of a definition's telescope and result."""
    return kinds_in(definition[1]) + [definition[2]]


def body_terms(definition):
    """The bodies of a definition's rows."""
    return [body for patterns, body in definition[4]]


def item_terms(item):
    """All terms of an item."""
    if item[0] == "family":
        return family_terms(item)
    return [term for definition in item[1] for term in head_terms(definition) + body_terms(definition)]


def terms_under(scope, name):
    """The terms that are read under a name of the Scope's: of a family all, of a definition its head;
    None under that of an open item."""
    if family_of(scope, name) is not None:
        return family_terms(family_of(scope, name))
    definition = definition_of(scope, name)
    return None if definition is None else head_terms(definition)


def unfolded_names(scope, item, paper):
    """The names that a paper of the item unfolds, but its own, in any order."""
    noted = item_by(scope, item, paper)
    own = names_of(item)
    return [] if noted is None else [name for name in noted if name not in own]


def unfolded_by(scope, item, paper):
    """The names of the definitions whose rows the item's paper steps by, rising."""
    return tuple(sorted(unfolded_names(scope, item, paper)))


def read_with(scope, item, unfolded):
    """The names of all families and definitions that the item reads where a paper unfolds these names, rising."""
    own = names_of(item)
    left = names_in_terms(item_terms(item))
    for name in unfolded:
        left.extend(names_in_terms(body_terms(definition_of(scope, name))))
    seen = {}
    while left:
        name = left.pop()
        if name in seen or name in own:
            continue
        terms = terms_under(scope, name)
        if terms is not None:
            seen[name] = True
            left.extend(names_in_terms(terms))
    return tuple(sorted(list(seen)))


def read_by(scope, item, paper):
    """The names of all families and definitions that the item reads by its paper, rising."""
    return read_with(scope, item, unfolded_names(scope, item, paper))
