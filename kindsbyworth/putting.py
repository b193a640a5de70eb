"""Shifting terms, and putting terms in for names."""

from kindsbyworth.terms import parts_of, with_ats


def shifted(term, many):
    """The term with each at that isn't of a body within it so many more."""
    if many == 0:
        return term

    def moved(k, bodies):
        return ("at", k + many) if k >= bodies else ("at", k)

    return with_ats(term, moved)


def put_in(body, terms):
    """The body with the last term for number 0, the one ahead of it for 1, and so on."""
    many = len(terms)
    if many == 0:
        return body

    def replaced(k, bodies):
        number = k - bodies
        if number < 0:
            return ("at", k)
        if number >= many:
            return ("at", k - many)
        term = terms[many - 1 - number]
        return shifted(term, bodies) if bodies else term

    return with_ats(body, replaced)


class Measured:
    """How great and how deep a body is, and a dict from each number of a name open in it to (how often it
    stands there, how deep at most)."""

    def __init__(self, body):
        self.size = 0
        self.depth = 0
        self.names = {}
        left = [(body, 0, 0)]
        while left:
            here, bodies, above = left.pop()
            self.size = self.size + 1
            if above > self.depth:
                self.depth = above
            if here[0] == "at":
                if here[1] >= bodies:
                    self._stands(here[1] - bodies, above)
            elif here[0] == "to" or here[0] == "fun":
                left.append((here[2], bodies, above + 1))
                left.append((here[3], bodies + 1, above + 1))
            elif len(here) > 2:
                left.extend([(part, bodies, above + 1) for part in parts_of(here)])

    def _stands(self, number, above):
        times, deepest = self.names.get(number, (0, 0))
        self.names[number] = (times + 1, max(deepest, above))
