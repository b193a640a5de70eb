"""Names, marks, terms, their parts and spots.

Terms that were told may be far deeper than Python's calls may nest, so
nothing here goes down a term by calling itself, but for its first levels.
"""

from kindsbyworth.errors import NoSpot

LONGEST_NAME = 8
MOST_FIGURES = 40
HIGHEST_WORLD = 9
MARKS = ("run", "gone")
# So many terms within one another are gone down by calls, which are faster; deeper ones by a stack.
SAFE_DEPTH = 40


def is_count(thing):
    """Whether it is a whole number from 0 on (True and False are none)."""
    return isinstance(thing, int) and not isinstance(thing, bool) and thing >= 0


def is_figures(text):
    """Whether the text is a number as numbers are written."""
    if len(text) > MOST_FIGURES or not text.isascii() or not text.isdigit():
        return False
    return text == "0" or text[0] != "0"


def is_name(thing):
    """Whether it is one to eight letters a to z."""
    if not isinstance(thing, str) or len(thing) > LONGEST_NAME:
        return False
    return thing.isalpha() and thing.islower() and thing.isascii()


def is_far(thing):
    """Whether it is a name, a number from 1 on and a name, a dot between each two."""
    if not isinstance(thing, str):
        return False
    words = thing.split(".")
    if len(words) != 3:
        return False
    library, number, name = words
    return is_name(library) and is_figures(number) and number != "0" and is_name(name)


def is_near_or_far(thing):
    """Whether it is a name, near or far."""
    return is_name(thing) or is_far(thing)


def is_mark(thing):
    """Whether it is one of both marks."""
    return thing in MARKS


def is_leaf(word, told):
    """Whether these two are a term without parts."""
    if word == "at":
        return is_count(told)
    if word == "world":
        return is_count(told) and told <= HIGHEST_WORLD
    return word == "hole" and is_name(told)


def formed_parts(thing):
    """The parts of what is a term if these are; None of anything else."""
    if not isinstance(thing, tuple) or not 2 <= len(thing) <= 4:
        return None
    word = thing[0]
    if len(thing) == 2:
        return () if is_leaf(word, thing[1]) else None
    if len(thing) == 3:
        fits = (word == "family" or word == "call") and isinstance(thing[2], tuple)
        return thing[2] if fits and is_near_or_far(thing[1]) else None
    if word == "shape":
        fits = isinstance(thing[3], tuple) and is_near_or_far(thing[1]) and is_name(thing[2])
        return thing[3] if fits else None
    fits = (word == "give" or word == "fun" or word == "to") and is_mark(thing[1])
    return thing[2:] if fits else None


def told_holes(things):
    """The names of the holes of all these, as often as they stand; None where one is no term, of anything."""
    found = []
    left = list(things)
    while left:
        here = left.pop()
        parts = formed_parts(here)
        if parts is None:
            return None
        if parts:
            left.extend(parts)
        elif here[0] == "hole":
            found.append(here[1])
    return found


def is_term(thing):
    """Whether it is a term, of anything."""
    return told_holes([thing]) is not None


def parts_of(term):
    """Its parts, in the order of their numbers."""
    # How long a term is tells more than its word, and sooner.
    many = len(term)
    if many == 2:
        return ()
    if many == 3:
        return term[2]
    return term[3] if term[0] == "shape" else term[2:]


def with_parts(term, parts):
    """The term with these parts in the place of its own, as many."""
    many = len(term)
    if many == 2:
        return term
    if many == 3:
        return (term[0], term[1], parts)
    if term[0] == "shape":
        return (term[0], term[1], term[2], parts)
    return term[:2] + parts


def bodies_above(term, number):
    """How many names the term adds around its part of this number."""
    return 1 if number == 1 and term[0] in ("to", "fun") else 0


def laid_out(term):
    """A list of (spot, part, bodies above it), as spots rise."""
    found = []
    left = [((), term, 0)]
    while left:
        spot, here, bodies = left.pop()
        found.append((spot, here, bodies))
        parts = parts_of(here)
        for number in reversed(range(len(parts))):
            left.append((spot + (number,), parts[number], bodies + bodies_above(here, number)))
    return found


def spots_of(term):
    """All its spots, rising."""
    return tuple([spot for spot, part, bodies in laid_out(term)])


def measures(term):
    """Its size, and how many numbers its longest spot has."""
    size, depth = 0, -1
    level = [term]
    while level:
        size = size + len(level)
        depth = depth + 1
        level = [part for here in level for part in parts_of(here)]
    return size, depth


def size_of(term):
    """How many spots it has."""
    return measures(term)[0]


def chain_to(term, spot):
    """The terms from this one down to the one at the spot; NoSpot of anything else."""
    if not isinstance(spot, tuple):
        raise NoSpot(spot)
    chain = [term]
    for number in spot:
        parts = parts_of(chain[-1])
        if not is_count(number) or number >= len(parts):
            raise NoSpot(spot)
        chain.append(parts[number])
    return chain


def part_at(term, spot):
    """The part at this spot."""
    return chain_to(term, spot)[-1]


def with_child(term, number, part):
    """The term with this part in the place of its own of this number."""
    parts = parts_of(term)
    return with_parts(term, parts[:number] + (part,) + parts[number + 1:])


def with_part(term, spot, part):
    """The term with this part at this spot."""
    chain = chain_to(term, spot)
    made = part
    for depth in reversed(range(len(spot))):
        made = with_child(chain[depth], spot[depth], made)
    return made


def leaves_by_stack(term, leaf, changed, above):
    """As leaves_changed, however deep the term is."""
    made = []
    left = [(term, above, False)]
    while left:
        here, bodies, ready = left.pop()
        parts = parts_of(here)
        if ready:
            first = len(made) - len(parts)
            whole = with_parts(here, tuple(made[first:]))
            del made[first:]
            made.append(whole)
        elif here[0] == leaf:
            made.append(changed(here[1], bodies))
        else:
            left.append((here, bodies, True))
            for number in reversed(range(len(parts))):
                left.append((parts[number], bodies + bodies_above(here, number), False))
    return made[0]


def leaves_changed(term, leaf, changed, bodies, left):
    """The term, beneath so many bodies, with its leaves of this word changed; left tells how much deeper to call."""
    word = term[0]
    if word == leaf:
        return changed(term[1], bodies)
    if len(term) == 2:
        return term
    if left == 0:
        return leaves_by_stack(term, leaf, changed, bodies)
    if word == "to" or word == "fun":
        kind = leaves_changed(term[2], leaf, changed, bodies, left - 1)
        return (word, term[1], kind, leaves_changed(term[3], leaf, changed, bodies + 1, left - 1))
    parts = parts_of(term)
    if not parts:
        return term
    return with_parts(term, tuple([leaves_changed(part, leaf, changed, bodies, left - 1) for part in parts]))


def with_ats(term, changed):
    """The term with changed(k, bodies) in the place of each ("at", k) beneath so many bodies."""
    return leaves_changed(term, "at", changed, 0, SAFE_DEPTH)


def with_holes(term, changed):
    """The term with changed(name, bodies) in the place of each ("hole", name) beneath so many bodies."""
    return leaves_changed(term, "hole", changed, 0, SAFE_DEPTH)


def with_nodes(term, changed):
    """The term with changed(part) in the place of each of its parts and of itself, from the inside."""
    made = []
    left = [(term, False)]
    while left:
        here, ready = left.pop()
        parts = parts_of(here)
        if ready or not parts:
            first = len(made) - len(parts)
            whole = changed(with_parts(here, tuple(made[first:])))
            del made[first:]
            made.append(whole)
        else:
            left.append((here, True))
            left.extend([(part, False) for part in reversed(parts)])
    return made[0]


def is_open(term, number):
    """Whether an at of the name with this number stands in it."""
    left = [(term, number)]
    while left:
        here, wanted = left.pop()
        word = here[0]
        if word == "at":
            if here[1] == wanted:
                return True
        elif word == "to" or word == "fun":
            left.append((here[2], wanted))
            left.append((here[3], wanted + 1))
        else:
            left.extend([(part, wanted) for part in parts_of(here)])
    return False


def holes_in(term):
    """The names of its holes, rising, each once."""
    return tuple(sorted(set(told_holes([term]))))
