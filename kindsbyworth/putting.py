"""Shifting terms, and putting terms in for names."""

from kindsbyworth.terms import bodies_above, measures, parts_of, with_ats


def shifted(term, many):
    """The term with each at that isn't of a body within it so many more."""
    if many == 0:
        return term

    def moved(k, bodies):
        return ("at", k + many) if k >= bodies else ("at", k)

    return with_ats(term, moved)


def put_in(body, terms):
    """The body with the last term for number 0, the one ahead of it for 1, and so on."""
    if not terms:
        return body

    def replaced(k, bodies):
        if k < bodies:
            return ("at", k)
        number = k - bodies
        if number < len(terms):
            return shifted(terms[len(terms) - 1 - number], bodies)
        return ("at", k - len(terms))

    return with_ats(body, replaced)


def put_measures(body, terms):
    """The measures of the body with these terms put in, told without putting them in."""
    sizes = {}
    size, depth = 0, 0
    left = [(body, 0, 0)]
    while left:
        here, bodies, above = left.pop()
        size = size + 1
        depth = max(depth, above)
        if here[0] == "at":
            number = here[1] - bodies
            if 0 <= number < len(terms):
                if number not in sizes:
                    sizes[number] = measures(terms[len(terms) - 1 - number])
                size = size + sizes[number][0] - 1
                depth = max(depth, above + sizes[number][1])
            continue
        for at, part in enumerate(parts_of(here)):
            left.append((part, bodies + bodies_above(here, at), above + 1))
    return size, depth
