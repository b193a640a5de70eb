"""What a judge of terms goes by: heads, outcomes, names around, what is wanted of parts.

Where an item's hole stands the item's bench has a call whose name begins
with HOLE_SIGN, so that no typed call is ever taken for it.
"""

from kindsbyworth.errors import Unjudged
from kindsbyworth.putting import shifted
from kindsbyworth.reckoning import alike_ways, head_way, outcome_way
from kindsbyworth.tasks import Tasks
from kindsbyworth.terms import bodies_above

HOLE_SIGN = "?"


class Bench:
    """What a judge goes by, its tasks, and what it notes of holes: by names, (name, around, manner, wish)."""

    def __init__(self, scope, most):
        self.scope = scope
        self.most = most
        self.tasks = Tasks()
        self.noted = {}

    def head(self, kind):
        """The way to a kind's head, and this."""
        return head_way(self.scope, kind, most=self.most)

    def outcome(self, kind):
        """The way to a kind's outcome, and this."""
        return outcome_way(self.scope, kind, most=self.most)

    def alike(self, one, other):
        """Ways of both to one term, None where they aren't alike."""
        return alike_ways(self.scope, one, other, self.most)


def is_held(term):
    """Whether it stands in the place of a hole."""
    return term[0] == "call" and term[1].startswith(HOLE_SIGN)


def at_kind(term, around, manner, spot):
    """The kind of a name, as the telescope around tells it."""
    number = term[1]
    if number >= len(around):
        raise Unjudged(spot, "around")
    mark, kind = around[len(around) - 1 - number]
    if manner == "run" and mark == "gone":
        raise Unjudged(spot, "gone")
    return shifted(kind, number + 1)


def leaf_told(term, around, manner, spot):
    """The kind of what has no parts to judge, and its paper; Unjudged of what has none."""
    if term[0] == "at":
        return at_kind(term, around, manner, spot), ()
    if term[0] != "world":
        raise Unjudged(spot, "wish")
    if term[1] == 9:
        raise Unjudged(spot, "world")
    return ("world", term[1] + 1), ()


def world_way(bench, kind, spot):
    """The way from a kind to a world, and the world's number."""
    way, head = bench.head(kind)
    if head[0] != "world":
        raise Unjudged(spot, "kind")
    return way, head[1]


def around_part(term, number, around):
    """The names around a term's part, those around the term told."""
    return around + (term[1:3],) if bodies_above(term, number) else around


def held_fit(bench, term, kind, around, manner):
    """The fit of a hole's call, whose wish is noted: that of a call of the open item it becomes."""
    way, wish = bench.outcome(kind)
    reached = [bench.outcome(one) for mark, one in around]
    telescope = tuple([(pair[0], told[1]) for pair, told in zip(around, reached)])
    name = term[1][len(HOLE_SIGN):]
    bench.noted[name] = (name, telescope, manner, wish)
    return ("as", tuple([("as", (), told[0], ()) for told in reached]), (), way)
