"""Bare terms: their parts, names and worths. They may be thousands deep, so nothing here calls itself."""

DULL = ("dull",)


def bare_parts(term):
    """Its parts, in order."""
    if term[0] in ("fun", "wait", "go", "give"):
        return term[1:]
    if term[0] in ("shape", "call"):
        return term[2]
    return ()


def with_bare_parts(term, parts):
    """The bare term with these parts in the place of its own, as many."""
    if term[0] in ("shape", "call"):
        return term[:2] + (parts,)
    return term[:1] + parts


def bare_bodies(term):
    """How many names the bare term adds around its part."""
    return 1 if term[0] == "fun" else 0


def put_bare(body, found):
    """The body with the closed bare terms of a dict, by their numbers, put in for names."""
    made = []
    left = [(body, 0, False)]
    while left:
        here, bodies, is_ready = left.pop()
        parts = bare_parts(here)
        if is_ready:
            first = len(made) - len(parts)
            whole = with_bare_parts(here, tuple(made[first:]))
            del made[first:]
            made.append(whole)
        elif here[0] == "at":
            made.append(found.get(here[1] - bodies, here))
        elif not parts:
            made.append(here)
        else:
            left.append((here, bodies, True))
            inner = bodies + bare_bodies(here)
            left.extend([(part, inner, False) for part in reversed(parts)])
    return made[0]


def open_numbers(body, above):
    """A dict whose keys are the numbers of the names open in a body beneath so many bodies of its own."""
    found = {}
    left = [(body, above)]
    while left:
        here, bodies = left.pop()
        if here[0] == "at":
            if here[1] >= bodies:
                found[here[1] - bodies] = True
            continue
        inner = bodies + bare_bodies(here)
        left.extend([(part, inner) for part in bare_parts(here)])
    return found
