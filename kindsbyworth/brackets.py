"""How words and brackets are written and read, of terms and patterns alike.

Patterns may stand within one another as deep as a text is long, so nothing
here calls itself.
"""

from kindsbyworth.errors import NoText


def bracketed(thing, opened):
    """Its text; opened(part) tells the words ahead, and the parts, None where no brackets stand."""
    pieces = []
    left = [thing]
    while left:
        here = left.pop()
        if isinstance(here, str):
            pieces.append(here)
            continue
        words, parts = opened(here)
        if parts is None:
            pieces.append(words)
            continue
        pieces.append("(" + words)
        left.append(")")
        for part in reversed(parts):
            left.append(part)
            left.append(" ")
    return "".join(pieces)


def unbracketed(text, leaf, closed):
    """A list of what the text holds: leaf(word) of a word, closed(list) of what stands in brackets.

    Blanks too many or missing at brackets are let by here: whoever reads
    shows again what was read and compares.
    """
    frames = [[]]
    for word in text.replace("(", " ( ").replace(")", " ) ").split(" "):
        if word == "(":
            frames.append([])
        elif word == ")":
            if len(frames) == 1:
                raise NoText("a bracket is closed that isn't opened")
            inner = frames.pop()
            frames[-1].append(closed(inner))
        elif word != "":
            frames[-1].append(leaf(word))
    if len(frames) > 1:
        raise NoText("a bracket isn't closed")
    return frames[0]
