"""How items are written and read, line by line."""

from kindsbyworth.brackets import bracketed, unbracketed
from kindsbyworth.errors import NoText
from kindsbyworth.items import is_item
from kindsbyworth.terms import is_figures
from kindsbyworth.termtexts import read_term, show_term


def pattern_opened(pattern):
    """The name ahead of a pattern's own patterns, and these, None where it has no brackets."""
    if pattern[0] == "take":
        return "*", None
    if pattern[0] == "due":
        return "-", None
    return pattern[1], pattern[2]


def pattern_of_word(word):
    """The pattern without brackets that is so written, else the word itself."""
    if word == "*":
        return ("take",)
    if word == "-":
        return ("due",)
    return word


def pattern_of_list(words):
    """The shape pattern that stands in brackets."""
    if not words:
        raise NoText("brackets stand around nothing")
    return ("shape", words[0], tuple(words[1:]))


def take_lines(telescope):
    """A line for each of a telescope that isn't gone throughout."""
    return [f"take {mark} {show_term(kind)}" for mark, kind in telescope]


def family_lines(family):
    """The lines of a family."""
    name, params, indexes, world, shapes = family[1:]
    lines = [f"family {name} {world}"]
    lines.extend([f"param {show_term(kind)}" for mark, kind in params])
    lines.extend([f"index {show_term(kind)}" for mark, kind in indexes])
    for shape, arguments, ends in shapes:
        lines.append(f"shape {shape}")
        lines.extend(take_lines(arguments))
        lines.extend([f"end {show_term(end)}" for end in ends])
    return lines


def definition_lines(definition):
    """The lines of a definition."""
    name, telescope, result, less, rows = definition
    lines = [f"define {name} -" if less is None else f"define {name} {less}"]
    lines.extend(take_lines(telescope))
    lines.append(f"result {show_term(result)}")
    for patterns, body in rows:
        lines.append(" ".join(["row"] + [bracketed(pattern, pattern_opened) for pattern in patterns]))
        lines.append(f"body {show_term(body)}")
    return lines


def show_item(item):
    """The text of an item."""
    if item[0] == "family":
        return "\n".join(family_lines(item))
    return "\n".join([line for definition in item[1] for line in definition_lines(definition)])


def rests_of(rows, at, word):
    """What stands behind the word in the rows from at on that begin with it, and where they end."""
    rests = []
    while at < len(rows) and rows[at][0] == word:
        rests.append(rows[at][2])
        at = at + 1
    return rests, at


def read_number(text):
    """The number that is just so written."""
    if not is_figures(text):
        raise NoText("no number is so written")
    return int(text)


def read_take(text):
    """The mark and kind behind a take."""
    mark, _, kind = text.partition(" ")
    return (mark, read_term(kind))


def gone_telescope(texts):
    """The telescope of these kinds, all marks gone."""
    return tuple([("gone", read_term(text)) for text in texts])


def read_shape(rows, at):
    """The shape that begins in this row, and where it ends."""
    name = rows[at][2]
    takes, at = rests_of(rows, at + 1, "take")
    ends, at = rests_of(rows, at, "end")
    return (name, tuple([read_take(take) for take in takes]), tuple([read_term(end) for end in ends])), at


def read_family(rows):
    """The family that these rows begin with."""
    name, _, world = rows[0][2].partition(" ")
    params, at = rests_of(rows, 1, "param")
    indexes, at = rests_of(rows, at, "index")
    shapes = []
    while at < len(rows) and rows[at][0] == "shape":
        shape, at = read_shape(rows, at)
        shapes.append(shape)
    return ("family", name, gone_telescope(params), gone_telescope(indexes), read_number(world), tuple(shapes))


def read_definition(rows, at):
    """The definition that begins in this row, and where it ends."""
    name, _, less = rows[at][2].partition(" ")
    takes, at = rests_of(rows, at + 1, "take")
    results, at = rests_of(rows, at, "result")
    if len(results) != 1:
        raise NoText("a definition has one result")
    table = []
    while at + 1 < len(rows) and rows[at][0] == "row" and rows[at + 1][0] == "body":
        patterns = unbracketed(rows[at][2], pattern_of_word, pattern_of_list)
        table.append((tuple(patterns), read_term(rows[at + 1][2])))
        at = at + 2
    telescope = tuple([read_take(take) for take in takes])
    number = None if less == "-" else read_number(less)
    return (name, telescope, read_term(results[0]), number, tuple(table)), at


def read_lot(rows):
    """The lot that these rows begin with."""
    definitions = []
    at = 0
    while at < len(rows) and rows[at][0] == "define":
        definition, at = read_definition(rows, at)
        definitions.append(definition)
    return ("lot", tuple(definitions))


def read_item(text):
    """The item that is just so written; NoText of anything else.

    Rows that are left over, and blanks amiss, are found by showing again
    what was read.
    """
    if not isinstance(text, str):
        raise NoText("a text is wanted")
    rows = [line.partition(" ") for line in text.split("\n")]
    item = read_family(rows) if rows[0][0] == "family" else read_lot(rows)
    if not is_item(item) or show_item(item) != text:
        raise NoText("no item is so written")
    return item
