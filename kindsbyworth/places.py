"""The places of rows, gone through: by the judge, and by the smaller judge."""

from kindsbyworth.errors import NoRow
from kindsbyworth.lookups import family_of, shape_of
from kindsbyworth.opennames import number_of
from kindsbyworth.putting import put_in
from kindsbyworth.terms import laid_out, with_ats


class Places:
    """Places beside one another that are gone through: those of a row, or those within a shape pattern.

    Of those within one, ask tells (the number of this, what its kind came to, the shape).
    """

    def __init__(self, patterns, telescope, ahead, ask):
        self.patterns = patterns
        self.telescope = telescope
        self.terms = ahead
        self.ask = ask
        self.begun = 0

    def begin(self):
        """The pattern, mark and kind of the next place."""
        mark, kind = self.telescope[self.begun]
        self.begun = self.begun + 1
        return self.patterns[self.begun - 1], mark, put_in(kind, self.terms)


class Row:
    """A row that is gone through: its open names, its takes among them, the shapes that its patterns mean.

    How a kind comes to its family, and how equations are gone through, each
    judge's rows tell themselves.
    """

    def set_up(self, scope, names, number):
        """Begin a row; each judge's rows do so when they are made."""
        self.scope = scope
        self.names = names
        self.number = number
        self.takes = []
        self.shapes = []

    def head_of(self, kind):
        """What the kind of the next shape pattern comes to."""
        raise NotImplementedError("each judge's rows tell it")

    def force(self, at, equations):
        """Go through the equations that come behind the shape pattern of this number; NoRow."""
        raise NotImplementedError("each judge's rows tell it")

    def go_through(self, patterns, telescope):
        """The terms of the row's places; NoRow."""
        left = [Places(patterns, telescope, (), None)]
        while True:
            here = left[-1]
            if here.begun < len(here.patterns):
                pattern, mark, kind = here.begin()
                if pattern[0] == "shape":
                    left.append(self.entered(pattern, mark, kind))
                else:
                    here.terms = here.terms + (self.named(pattern, mark, kind),)
                continue
            left.pop()
            if not left:
                return here.terms
            left[-1].terms = left[-1].terms + (self.left_behind(here),)

    def named(self, pattern, mark, kind):
        """The term of a take or due."""
        if pattern[0] == "take":
            self.takes.append(len(self.names.told))
        return self.names.named(mark, kind, pattern[0] == "due")

    def entered(self, pattern, mark, kind):
        """The places within a shape pattern; no place around it is gone, or that one was refused."""
        if mark == "gone":
            raise NoRow(self.number, "gone")
        head = self.head_of(self.names.put(kind))
        family, shape = self.shape_meant(pattern, head)
        self.shapes.append(shape)
        return Places(pattern[2], shape[1], head[2][:len(family[2])], (len(self.shapes) - 1, head, shape))

    def left_behind(self, places):
        """The term of a shape pattern behind its last place, where its equations come."""
        at, head, shape = places.ask
        indexes = head[2][len(head[2]) - len(shape[2]):]
        self.force(at, [(index, put_in(end, places.terms)) for index, end in zip(indexes, shape[2])])
        return ("shape", head[1], shape[0], places.terms)

    def unsolved_due(self):
        """The numbers of the due names that aren't solved."""
        return [number for number in self.names.unsolved() if self.names.told[number][2]]

    def body_kind(self, result, terms):
        """The kind of the row's body, its takes around it."""
        solved = tuple([self.names.put(term) for term in terms])
        return in_takes(put_in(result, solved), self.takes)

    def shape_meant(self, pattern, head):
        """The family of a head, and its shape that the pattern means."""
        if head[0] != "family":
            raise NoRow(self.number, "family")
        family = family_of(self.scope, head[1])
        shape = shape_of(family, pattern[1])
        if shape is None:
            raise NoRow(self.number, "shape")
        if len(shape[1]) != len(pattern[2]):
            raise NoRow(self.number, "many")
        return family, shape


def is_of_takes(term, takes):
    """Whether no open name stands in it but these takes."""
    ats = [(part[1], bodies) for _, part, bodies in laid_out(term) if part[0] == "at"]
    return all([k < bodies or number_of(k, bodies) in takes for k, bodies in ats])


def in_takes(term, takes):
    """The term of open names, all of these takes, with these takes alone around it."""
    places = {number: at for at, number in enumerate(takes)}

    def replaced(k, bodies):
        number = number_of(k, bodies)
        return ("at", len(takes) - 1 - places[number] + bodies) if number in places else ("at", k)

    return with_ats(term, replaced)
