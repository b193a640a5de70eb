"""Shifting terms, and putting terms in for names."""

from kindsbyworth.terms import with_ats


def shifted(term, many):
    """The term with each at that isn't of a body within it so many more."""
    def moved(k, bodies):
        return ("at", k + many) if k >= bodies else ("at", k)

    return with_ats(term, moved)


def put_in(body, terms):
    """The body with the last term for number 0, the one ahead of it for 1, and so on."""
    def replaced(k, bodies):
        if k < bodies:
            return ("at", k)
        number = k - bodies
        if number < len(terms):
            return shifted(terms[len(terms) - 1 - number], bodies)
        return ("at", k - len(terms))

    return with_ats(body, replaced)
