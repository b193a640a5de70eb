"""How bare worths are written."""

from kindsbyworth.brackets import bracketed


def bare_opened(worth):
    """The words ahead of a shape's parts, and these; of another worth its word alone, and None."""
    if worth[0] == "shape":
        return f"shape {worth[1]}", worth[2]
    return worth[0], None


def show_bare(worth):
    """The text of a bare worth."""
    return bracketed(worth, bare_opened)
