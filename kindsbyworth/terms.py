"""Names, marks, terms, their parts and spots.

Terms that were told may be far deeper than Python's calls may nest, so
nothing here goes down a term by calling itself.
"""

from kindsbyworth.errors import NoSpot

LETTERS = "abcdefghijklmnopqrstuvwxyz"
FIGURES = "0123456789"
LONGEST_NAME = 8
MOST_FIGURES = 40
HIGHEST_WORLD = 9
MARKS = ("run", "gone")


def is_count(thing):
    """Whether it is a whole number from 0 on (True and False are none)."""
    return isinstance(thing, int) and not isinstance(thing, bool) and thing >= 0


def is_figures(text):
    """Whether the text is a number as numbers are written."""
    if not 1 <= len(text) <= MOST_FIGURES or not all([sign in FIGURES for sign in text]):
        return False
    return text == "0" or text[0] != "0"


def is_name(thing):
    """Whether it is one to eight letters a to z."""
    if not isinstance(thing, str) or not 1 <= len(thing) <= LONGEST_NAME:
        return False
    return all([sign in LETTERS for sign in thing])


def is_far(thing):
    """Whether it is a name, a number from 1 on and a name, a dot between each two."""
    if not isinstance(thing, str):
        return False
    words = thing.split(".")
    if len(words) != 3:
        return False
    library, number, name = words
    return is_name(library) and is_figures(number) and number != "0" and is_name(name)


def is_near_or_far(thing):
    """Whether it is a name, near or far."""
    return is_name(thing) or is_far(thing)


def is_mark(thing):
    """Whether it is one of both marks."""
    return thing in MARKS


def has_form(thing):
    """Whether it is a term, if its parts are."""
    if not isinstance(thing, tuple) or len(thing) < 2:
        return False
    word, many = thing[0], len(thing)
    if word == "at":
        return many == 2 and is_count(thing[1])
    if word == "world":
        return many == 2 and is_count(thing[1]) and thing[1] <= HIGHEST_WORLD
    if word == "hole":
        return many == 2 and is_name(thing[1])
    if word in ("to", "fun", "give"):
        return many == 4 and is_mark(thing[1])
    if word in ("family", "call"):
        return many == 3 and is_near_or_far(thing[1]) and isinstance(thing[2], tuple)
    if word == "shape":
        return many == 4 and is_near_or_far(thing[1]) and is_name(thing[2]) and isinstance(thing[3], tuple)
    return False


def is_term(thing):
    """Whether it is a term, of anything."""
    left = [thing]
    while left:
        here = left.pop()
        if not has_form(here):
            return False
        left.extend(parts_of(here))
    return True


def parts_of(term):
    """Its parts, in the order of their numbers."""
    if term[0] in ("to", "fun", "give"):
        return term[2:]
    if term[0] in ("family", "call"):
        return term[2]
    if term[0] == "shape":
        return term[3]
    return ()


def with_parts(term, parts):
    """The term with these parts in the place of its own, as many."""
    if term[0] in ("to", "fun", "give"):
        return term[:2] + parts
    if term[0] in ("family", "call"):
        return term[:2] + (parts,)
    if term[0] == "shape":
        return term[:3] + (parts,)
    return term


def bodies_above(term, number):
    """How many names the term adds around its part of this number."""
    return 1 if number == 1 and term[0] in ("to", "fun") else 0


def laid_out(term):
    """A list of (spot, part, bodies above it), as spots rise."""
    found = []
    left = [((), term, 0)]
    while left:
        spot, here, bodies = left.pop()
        found.append((spot, here, bodies))
        parts = parts_of(here)
        for number in reversed(range(len(parts))):
            left.append((spot + (number,), parts[number], bodies + bodies_above(here, number)))
    return found


def spots_of(term):
    """All its spots, rising."""
    return tuple([spot for spot, part, bodies in laid_out(term)])


def measures(term):
    """Its size, and how many numbers its longest spot has."""
    size, depth = 0, -1
    level = [term]
    while level:
        size = size + len(level)
        depth = depth + 1
        level = [part for here in level for part in parts_of(here)]
    return size, depth


def size_of(term):
    """How many spots it has."""
    return measures(term)[0]


def chain_to(term, spot):
    """The terms from this one down to the one at the spot; NoSpot of anything else."""
    if not isinstance(spot, tuple):
        raise NoSpot(spot)
    chain = [term]
    for number in spot:
        parts = parts_of(chain[-1])
        if not is_count(number) or number >= len(parts):
            raise NoSpot(spot)
        chain.append(parts[number])
    return chain


def part_at(term, spot):
    """The part at this spot."""
    return chain_to(term, spot)[-1]


def with_part(term, spot, part):
    """The term with this part at this spot."""
    chain = chain_to(term, spot)
    made = part
    for depth in reversed(range(len(spot))):
        number, parts = spot[depth], parts_of(chain[depth])
        made = with_parts(chain[depth], parts[:number] + (made,) + parts[number + 1:])
    return made


def with_ats(term, changed):
    """The term with changed(k, bodies) in the place of each ("at", k) beneath so many bodies."""
    made = []
    left = [(term, 0, False)]
    while left:
        here, bodies, ready = left.pop()
        parts = parts_of(here)
        if ready:
            first = len(made) - len(parts)
            whole = with_parts(here, tuple(made[first:]))
            del made[first:]
            made.append(whole)
        elif here[0] == "at":
            made.append(changed(here[1], bodies))
        else:
            left.append((here, bodies, True))
            for number in reversed(range(len(parts))):
                left.append((parts[number], bodies + bodies_above(here, number), False))
    return made[0]


def is_open(term, number):
    """Whether an at of the name with this number stands in it."""
    return any([part == ("at", number + bodies) for spot, part, bodies in laid_out(term)])


def hole_names(term):
    """The names of its holes as their spots rise, as often as they stand."""
    return [part[1] for spot, part, bodies in laid_out(term) if part[0] == "hole"]


def holes_in(term):
    """The names of its holes, rising, each once."""
    return tuple(sorted(set(hole_names(term))))
