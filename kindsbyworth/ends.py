"""Whether the calls of a lot end: each falls, or stays, and none stays all the way round."""

from kindsbyworth.errors import NoEnd, Ring
from kindsbyworth.patterns import takes_in
from kindsbyworth.terms import laid_out


def words_of_takes(patterns, less):
    """For each take of a row the word of a call that has it, in their order."""
    words = []
    for place, pattern in enumerate(patterns):
        word = "none"
        if place == less:
            word = "stays" if pattern[0] == "take" else "falls"
        words.extend([word] * takes_in((pattern,)))
    return words


def word_of_call(call, bodies, words, less):
    """Whether a call beneath so many bodies falls or stays, by the called one's less."""
    if less is None or less >= len(call[2]) or call[2][less][0] != "at":
        return "none"
    number = call[2][less][1] - bodies
    return words[len(words) - 1 - number] if 0 <= number < len(words) else "none"


def calls_of(definitions):
    """(caller, row, called, word) for each call of these in rows of these, in their order."""
    lesses = {definition[0]: definition[3] for definition in definitions}
    found = []
    for definition in definitions:
        for row, (patterns, body) in enumerate(definition[4]):
            words = words_of_takes(patterns, definition[3])
            for _, part, bodies in laid_out(body):
                if part[0] == "call" and part[1] in lesses:
                    word = word_of_call(part, bodies, words, lesses[part[1]])
                    found.append((definition[0], row, part[1], word))
    return tuple(found)


def staying_calls(definitions):
    """A dict from each name to the names that it calls staying; NoEnd of the first that does neither."""
    staying = {definition[0]: [] for definition in definitions}
    for caller, row, called, word in calls_of(definitions):
        if word == "none":
            raise NoEnd(caller, row)
        if word == "stays":
            staying[caller].append(called)
    return staying


def ring_in(staying):
    """Names each of which calls the next one staying, the last one the first; each here calls one that is here."""
    path = [list(staying)[0]]
    while True:
        called = [name for name in staying[path[-1]] if name in staying][0]
        if called in path:
            return tuple(path[path.index(called):])
        path.append(called)


def ends_of(definitions):
    """Numbers such that each staying call goes to a lower one; NoEnd, Ring."""
    staying = staying_calls(definitions)
    numbers = {}
    while staying:
        lowest = [name for name in staying if not [called for called in staying[name] if called in staying]]
        if not lowest:
            raise Ring(ring_in(staying))
        level = len(numbers)
        for name in lowest:
            numbers[name] = level
        staying = {name: staying[name] for name in staying if name not in lowest}
    return tuple([numbers[definition[0]] for definition in definitions])
