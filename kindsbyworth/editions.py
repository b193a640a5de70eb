"""Libraries as they are behind a deed: an edition, which never changes.

What comes behind a deed is another edition, which shares what is as it was.
"""

from kindsbyworth.errors import Broken, Taken, TongueError
from kindsbyworth.farnames import far_pairs, made_far
from kindsbyworth.holes import lifted, opened
from kindsbyworth.items import holes_of, names_of
from kindsbyworth.judging import item_told
from kindsbyworth.limits import MOST
from kindsbyworth.sameness import are_same
from kindsbyworth.scopes import Scope
from kindsbyworth.used import read_with, unfolded_names


class Entry:
    """An item of a library as it was judged last, by the Scope of those ahead of it: its paper, the rows of
    its wishes, the items that it brings to the Scope, and what it read and unfolded."""

    def __init__(self, scope, typed):
        self.item = typed
        self.told_paper, self.wished = item_told(scope, typed, MOST)
        lot = lifted(typed)
        self.brought = opened(self.wished) + (lot,)
        inner = scope.grown(self.brought[:-1])
        unfolded = unfolded_names(inner, lot, self.told_paper)
        self.unfolded = tuple(sorted(unfolded))
        self.read = read_with(inner, lot, unfolded)

    def first_name(self):
        """The first name of the item."""
        return names_of(self.item)[0]


class Book:
    """A library: its entries in order, the (library, number) of the pictures that these name, in the order in
    which they were made, and its Scope."""

    def __init__(self, entries, pairs, scope):
        self.entries = entries
        self.pairs = pairs
        self.scope = scope


class Picture:
    """The items of a picture, and the (library, number) of those that they name."""

    def __init__(self, items):
        self.far_items = items
        self.pairs = far_pairs(items)


class Edition:
    """Books by the names of libraries; a shelf of pictures by (library, number), in the order in which
    they were made."""

    def __init__(self, books, shelf):
        self.books = books
        self.shelf = shelf

    def with_book(self, lib, book):
        """The edition with this book for the library."""
        return Edition({**self.books, lib: book}, self.shelf)

    def with_picture(self, lib):
        """The edition with a picture of a library as it is now."""
        number = self.many_pictures(lib) + 1
        shelf = {pair: self.shelf[pair] for pair in self.shelf}
        shelf[(lib, number)] = Picture(made_far(self.typed_items(lib), f"{lib}.{number}."))
        return Edition(self.books, shelf)

    def many_pictures(self, lib):
        """How many pictures there are of a library."""
        return len([name for name, number in self.shelf if name == lib])

    def typed_items(self, lib):
        """The items of a library as typed."""
        return tuple([entry.item for entry in self.books[lib].entries])

    def all_told(self):
        """All that two equal editions have in common: (library, items, pictures' items), by names."""
        return tuple([
            (lib, self.typed_items(lib), tuple([self.shelf[pair].far_items for pair in self.shelf if pair[0] == lib]))
            for lib in sorted(list(self.books))
        ])

    def pairs_named(self, items):
        """The pictures that items name, or that these pictures' items name, and so on, in their order."""
        found = {}
        left = far_pairs(items)
        while left:
            pair = left.pop()
            if pair in self.shelf and pair not in found:
                found[pair] = True
                left.extend(self.shelf[pair].pairs)
        return [pair for pair in self.shelf if pair in found]

    def scope_of(self, pairs, entries):
        """The Scope of these entries, behind the items of these pictures."""
        pictured = [item for pair in pairs for item in self.shelf[pair].far_items]
        return Scope().grown(tuple(pictured + [item for entry in entries for item in entry.brought]))

    def with_put(self, lib, item):
        """The edition with an item more at the end of the library; refused as it is judged."""
        book = self.books[lib]
        pairs = self.pairs_named(list(self.typed_items(lib)) + [item])
        scope = book.scope if pairs == book.pairs else self.scope_of(pairs, book.entries)
        entry = Entry(scope, item)
        return self.with_book(lib, Book(book.entries + (entry,), pairs, scope.grown(entry.brought)))

    def with_changed(self, lib, place, item):
        """(the edition with an item in the place of another one, the first names of those behind it that were
        judged anew); refused as it is judged, Broken."""
        entries = self.books[lib].entries
        others = entries[:place] + entries[place + 1:]
        refuse_holes_taken(others, item)
        pairs = self.pairs_named([entry.item for entry in others] + [item])
        scope = self.scope_of(pairs, entries[:place])
        made = [Entry(scope, item)]
        heads, rows = changed_names(entries[place].item, item)
        anew = []
        for entry in entries[place + 1:]:
            scope = scope.grown(made[-1].brought)
            hangs = are_met(heads, entry.read) or are_met(rows, entry.unfolded)
            if hangs:
                anew.append(entry.first_name())
            made.append(judged_anew(scope, entry) if hangs else entry)
        book = Book(entries[:place] + tuple(made), pairs, scope.grown(made[-1].brought))
        return self.with_book(lib, book), tuple(anew)

    def without(self, lib, place):
        """The edition without an item; Broken of the first that reads a name of it."""
        entries = self.books[lib].entries
        names = names_of(entries[place].item)
        for entry in entries:
            if are_met(names, entry.read):
                raise Broken(entry.first_name())
        left = entries[:place] + entries[place + 1:]
        pairs = self.pairs_named([entry.item for entry in left])
        return self.with_book(lib, Book(left, pairs, self.scope_of(pairs, left)))


def are_met(names, others):
    """Whether one of these names is among the others."""
    return any([name in others for name in names])


def judged_anew(scope, entry):
    """The entry judged by another Scope; Broken where it isn't let by any more."""
    try:
        return Entry(scope, entry.item)
    except TongueError:
        raise Broken(entry.first_name())


def refuse_holes_taken(entries, item):
    """Taken of the item's first hole, rising, that one of these has as a hole or a name."""
    taken = {name: True for entry in entries for name in names_of(entry.item) + holes_of(entry.item)}
    for name in holes_of(item):
        if name in taken:
            raise Taken(name)


def heads_and_rows(item):
    """A dict from each name of an item to its (head, rows)."""
    if item[0] == "family":
        return {item[1]: (item[2:], ())}
    return {definition[0]: (definition[1:3], definition[4]) for definition in item[1]}


def changed_names(old, new):
    """The names of both items that have another head in the new one, and those that have other rows."""
    ahead, behind = heads_and_rows(old), heads_and_rows(new)
    heads = [name for name in ahead if not are_same(ahead[name][0], behind[name][0])]
    return heads, [name for name in ahead if not are_same(ahead[name][1], behind[name][1])]
