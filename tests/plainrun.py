"""A run by the words of the document alone: each thing put in is gone through anew, and measured whole."""

from kindsbyworth.errors import TooGreat, TooLong
from kindsbyworth.putting import put_in
from kindsbyworth.steps import rows_met
from kindsbyworth.terms import measures, with_parts


class Sticks(Exception):
    pass


class PlainRun:
    def __init__(self, scope, most):
        self.scope, self.most, self.steps = scope, most, 0

    def checked(self, term):
        size, depth = measures(term)
        if size > 400 or depth > 40:
            raise TooGreat(size)
        return term

    def go_on(self, body, terms):
        if self.steps == self.most:
            raise TooLong(self.most)
        self.steps = self.steps + 1
        return self.run(self.checked(put_in(body, terms)))

    def run(self, term):
        word = term[0]
        if word in ("fun", "to", "world", "family"):
            return self.checked(term)
        if word == "give":
            function = self.run(term[2])
            argument = self.run(term[3]) if term[1] == "run" else term[3]
            return self.go_on(function[3], (argument,))
        if word == "shape":
            family = self.scope.item_of(term[1])
            shape = [one for one in family[5] if one[0] == term[2]][0]
            return self.checked(with_parts(term, self.parts(family[2] + shape[1], term[3])))
        definition = [one for one in self.scope.item_of(term[1])[1] if one[0] == term[1]][0]
        word, row, taken = rows_met(self.scope, definition, self.parts(definition[1], term[2]))
        if word != "takes":
            raise Sticks
        return self.go_on(definition[4][row][1], taken)

    def parts(self, telescope, terms):
        return tuple([self.run(term) if mark == "run" else term for (mark, _), term in zip(telescope, terms)])


def plain_run(scope, term, most):
    """The worth of a judged term, and how many steps its run goes; TooLong, TooGreat."""
    run = PlainRun(scope, most)
    return run.run(term), run.steps
