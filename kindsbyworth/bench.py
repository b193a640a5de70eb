"""The judge of terms: their kinds and fits, each with the paper of it.

Where an item's hole stands the item's bench has a call whose name begins
with HOLE_SIGN, so that no typed call is ever taken for it.
"""

from kindsbyworth.errors import Unjudged
from kindsbyworth.lookups import definition_of, family_of, shape_of
from kindsbyworth.putting import put_in, shifted
from kindsbyworth.reckoning import alike_ways, head_way, outcome_way

HOLE_SIGN = "?"


class Bench:
    """What a judge goes by, and what it notes of holes: (name, around, manner, wish)."""

    def __init__(self, scope, most):
        self.scope = scope
        self.most = most
        self.noted = []

    def head(self, kind):
        """The way to a kind's head, and this."""
        return head_way(self.scope, kind, most=self.most)

    def outcome(self, kind):
        """The way to a kind's outcome, and this."""
        return outcome_way(self.scope, kind, most=self.most)

    def alike(self, one, other):
        """Ways of both to one term, None where they aren't alike."""
        return alike_ways(self.scope, one, other, self.most)


def is_held(term):
    """Whether it stands in the place of a hole."""
    return term[0] == "call" and term[1].startswith(HOLE_SIGN)


def at_kind(term, around, manner, spot):
    """The kind of a name, as the telescope around tells it."""
    number = term[1]
    if number >= len(around):
        raise Unjudged(spot, "around")
    mark, kind = around[len(around) - 1 - number]
    if manner == "run" and mark == "gone":
        raise Unjudged(spot, "gone")
    return shifted(kind, number + 1)


def world_way(bench, kind, spot):
    """The way from a kind to a world, and the world's number."""
    way, head = bench.head(kind)
    if head[0] != "world":
        raise Unjudged(spot, "kind")
    return way, head[1]


def kind_of_world(bench, kind, around, spot):
    """(paper, way, number): of a kind judged in manner gone, of the world of this number."""
    judged, paper = kind_told(bench, kind, around, "gone", spot)
    way, number = world_way(bench, judged, spot)
    return paper, way, number


def to_told(bench, term, around, spot):
    """The kind of a to, and its paper."""
    paper, way, first = kind_of_world(bench, term[2], around, spot + (0,))
    under, behind, second = kind_of_world(bench, term[3], around + (term[1:3],), spot + (1,))
    return ("world", max(first, second)), (paper, way, under, behind)


def fun_told(bench, term, around, manner, spot):
    """The kind of a fun, and its paper."""
    mark, kind, body = term[1:]
    paper, way, _ = kind_of_world(bench, kind, around, spot + (0,))
    judged, under = kind_told(bench, body, around + ((mark, kind),), manner, spot + (1,))
    return ("to", mark, kind, judged), (paper, way, under)


def give_told(bench, term, around, manner, spot):
    """The kind of a give, and its paper."""
    mark, function, argument = term[1:]
    judged, paper = kind_told(bench, function, around, manner, spot + (0,))
    way, head = bench.head(judged)
    if head[0] != "to":
        raise Unjudged(spot + (0,), "to")
    if head[1] != mark:
        raise Unjudged(spot + (0,), "mark")
    inner = "gone" if mark == "gone" else manner
    given = fitted(bench, argument, head[2], around, inner, spot + (1,))
    return put_in(head[3], (argument,)), (paper, way, given)


def wanted_of(scope, term, spot):
    """The telescope that a term's parts fit, and its kind, those around it; Unjudged of no name."""
    word, name = term[:2]
    if word == "call":
        definition = definition_of(scope, name)
        if definition is None:
            raise Unjudged(spot, "name")
        return definition[1:3]
    family = family_of(scope, name)
    if family is None:
        raise Unjudged(spot, "name")
    params, indexes, world, shapes = family[2:]
    if word == "family":
        return params + indexes, ("world", world)
    shape = shape_of(family, term[2])
    if shape is None:
        raise Unjudged(spot, "name")
    return params + shape[1], ("family", name, own_names(len(params), len(shape[1])) + shape[2])


def own_names(many, further):
    """The ats of so many names, so many further ones behind them."""
    return tuple([("at", further + many - 1 - place) for place in range(many)])


def table_told(bench, term, around, manner, spot):
    """The kind of a family, shape or call, and its paper."""
    telescope, told = wanted_of(bench.scope, term, spot)
    parts = term[-1]
    if len(parts) != len(telescope):
        raise Unjudged(spot, "many")
    fits = []
    for at, (mark, kind) in enumerate(telescope):
        inner = "gone" if mark == "gone" else manner
        fits.append(fitted(bench, parts[at], put_in(kind, parts[:at]), around, inner, spot + (at,)))
    return put_in(told, parts), tuple(fits)


def kind_told(bench, term, around, manner, spot):
    """The kind of a term, and the paper of it; Unjudged of the first that is amiss."""
    word = term[0]
    if word == "at":
        return at_kind(term, around, manner, spot), ()
    if word == "world":
        if term[1] == 9:
            raise Unjudged(spot, "world")
        return ("world", term[1] + 1), ()
    if word == "to":
        return to_told(bench, term, around, spot)
    if word == "fun":
        return fun_told(bench, term, around, manner, spot)
    if word == "give":
        return give_told(bench, term, around, manner, spot)
    if word == "hole" or is_held(term):
        raise Unjudged(spot, "wish")
    return table_told(bench, term, around, manner, spot)


def held_fit(bench, term, kind, around, manner):
    """The fit of a hole's call, whose wish is noted: that of a call of the open item it becomes."""
    way, wish = bench.outcome(kind)
    reached = [bench.outcome(one) for mark, one in around]
    telescope = tuple([(pair[0], told[1]) for pair, told in zip(around, reached)])
    bench.noted.append((term[1][len(HOLE_SIGN):], telescope, manner, wish))
    return ("as", tuple([("as", (), told[0], ()) for told in reached]), (), way)


def under_fit(bench, term, way, wanted, around, manner, spot):
    """The fit of a fun beneath a to."""
    mark, kind, body = term[1:]
    paper, other, _ = kind_of_world(bench, kind, around, spot + (0,))
    ways = bench.alike(kind, wanted[2])
    if ways is None:
        raise Unjudged(spot + (0,), "unlike")
    given = fitted(bench, body, wanted[3], around + ((mark, kind),), manner, spot + (1,))
    return ("under", way, paper, other, ways[0], ways[1], given)


def fitted(bench, term, kind, around, manner, spot):
    """The fit of a term that fits the kind; Unjudged of the first that is amiss."""
    if term[0] == "fun":
        way, head = bench.head(kind)
        if head[0] == "to" and head[1] == term[1]:
            return under_fit(bench, term, way, head, around, manner, spot)
    if is_held(term):
        return held_fit(bench, term, kind, around, manner)
    judged, paper = kind_told(bench, term, around, manner, spot)
    ways = bench.alike(judged, kind)
    if ways is None:
        raise Unjudged(spot, "unlike")
    return ("as", paper, ways[0], ways[1])
