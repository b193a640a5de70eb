"""The refusals: each is an error whose fields are what it was made with."""


class TongueError(ValueError):
    """Something was refused."""


class NoText(TongueError):
    """What should be read isn't just so written."""


class NoItem(TongueError):
    """What should be an item is none."""


class NoTerm(TongueError):
    """What should be a term is none."""


class Taken(TongueError):
    """A name is there already."""

    def __init__(self, name):
        self.name = name


class Unjudged(TongueError):
    """A term has no kind: the spot and the word tell what is amiss."""

    def __init__(self, spot, word):
        self.spot = spot
        self.word = word


class Holds(TongueError):
    """An argument or end of a shape holds its own family where it may not."""

    def __init__(self, shape, k):
        self.shape = shape
        self.k = k


class NoRow(TongueError):
    """A row isn't let by."""

    def __init__(self, row, word):
        self.row = row
        self.word = word


class NoEnd(TongueError):
    """A row has a call that neither falls nor stays."""

    def __init__(self, name, row):
        self.name = name
        self.row = row


class Ring(TongueError):
    """Calls stay all the way round."""

    def __init__(self, names):
        self.names = names


class Lacks(TongueError):
    """No row of a definition takes these arguments."""

    def __init__(self, name, arguments):
        self.name = name
        self.arguments = arguments


class Unclear(TongueError):
    """Whether the rows of a definition cover can't be told."""

    def __init__(self, name):
        self.name = name


class Idle(TongueError):
    """A row is never taken."""

    def __init__(self, name, row):
        self.name = name
        self.row = row


class Broken(TongueError):
    """An item that hangs on what changes wouldn't be let by any more."""

    def __init__(self, name):
        self.name = name


class Holed(TongueError):
    """A hole is left where none may be."""

    def __init__(self, name):
        self.name = name


class NoBack(TongueError):
    """There are not so many deeds to go back to."""

    def __init__(self, many):
        self.many = many


class TooMuch(TongueError):
    """A reckoning or a term is beyond the bounds."""


class TooLong(TooMuch):
    """More than the most steps would be gone."""

    def __init__(self, most):
        self.most = most


class TooGreat(TooMuch):
    """A step would make a term of this size, which is too great or too deep."""

    def __init__(self, size):
        self.size = size


class Absent(KeyError):
    """What is asked for isn't there."""


class NoName(Absent):
    """No item has this name."""

    def __init__(self, name):
        self.name = name


class NoSpot(Absent):
    """The term has no such spot."""

    def __init__(self, spot):
        self.spot = spot


class NoLibrary(Absent):
    """There is no such library."""

    def __init__(self, lib):
        self.lib = lib


class NoHole(Absent):
    """There is no such hole."""

    def __init__(self, hole):
        self.hole = hole


class NoPicture(Absent):
    """There is no such picture."""

    def __init__(self, n):
        self.n = n
