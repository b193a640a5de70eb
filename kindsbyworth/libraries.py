"""Libraries: items in editions, and pictures of them."""

from kindsbyworth.editions import Book, Edition
from kindsbyworth.errors import Holed, NoBack, NoHole, NoItem, NoLibrary, NoName, NoPicture, NoTerm, Taken
from kindsbyworth.holes import filled
from kindsbyworth.items import holes_of, is_item, names_of
from kindsbyworth.kinds import kind_of
from kindsbyworth.limits import MOST
from kindsbyworth.running import run_of
from kindsbyworth.sameness import are_same
from kindsbyworth.scopes import Scope
from kindsbyworth.terms import is_count, is_far, is_name, is_term


def refuse_no_near(item):
    """NoItem of what is none, and of one whose own names are far, of anything."""
    if not is_item(item) or any([is_far(name) for name in names_of(item)]):
        raise NoItem("an item of near names is wanted")


def place_of(entries, name):
    """The place of the item that has this name, of anything; None where there is none."""
    for place, entry in enumerate(entries):
        if name in names_of(entry.item):
            return place
    return None


def place_changed(entries, item):
    """The place of the item there whose names are just those of this one; NoName."""
    names = names_of(item)
    place = place_of(entries, names[0])
    if place is None:
        raise NoName(names[0])
    there = names_of(entries[place].item)
    amiss = [name for name in names if name not in there] + [name for name in there if name not in names]
    if amiss:
        raise NoName(amiss[0])
    return place


class Libraries:
    """Libraries by names, as the deeds that stand have made them: an edition behind each."""

    def __init__(self):
        self._editions = [Edition({}, {})]

    def __len__(self):
        return len(self._editions[-1].books)

    def __eq__(self, other):
        if not isinstance(other, Libraries):
            return NotImplemented
        return are_same(self._editions[-1].all_told(), other._editions[-1].all_told())

    def _now(self):
        """The edition as it is now."""
        return self._editions[-1]

    def _book(self, lib):
        """The book of a library, of anything; NoLibrary."""
        if not isinstance(lib, str) or lib not in self._now().books:
            raise NoLibrary(lib)
        return self._now().books[lib]

    def _entry(self, lib, name):
        """The entry of the item of a library that has this name, of anything; NoLibrary, NoName."""
        entries = self._book(lib).entries
        place = place_of(entries, name)
        if place is None:
            raise NoName(name)
        return entries[place]

    def begin(self, lib):
        """A new library without items; NoName of what is no name, Taken."""
        if not is_name(lib):
            raise NoName(lib)
        if lib in self._now().books:
            raise Taken(lib)
        self._editions.append(self._now().with_book(lib, Book((), [], Scope())))

    def put(self, lib, item):
        """An item at the end of a library; refused where it isn't let by."""
        self._book(lib)
        refuse_no_near(item)
        self._editions.append(self._now().with_put(lib, item))

    def change(self, lib, item):
        """An item in the place of the one of the same names; told are the first names of those behind it that
        were judged anew."""
        book = self._book(lib)
        refuse_no_near(item)
        made, anew = self._now().with_changed(lib, place_changed(book.entries, item), item)
        self._editions.append(made)
        return anew

    def out(self, lib, name):
        """The item of this first name taken out; NoName, Broken."""
        entries = self._book(lib).entries
        place = place_of(entries, name)
        if place is None or entries[place].first_name() != name:
            raise NoName(name)
        self._editions.append(self._now().without(lib, place))

    def fill(self, lib, hole, term):
        """A term in the place of a hole; told as by change. NoHole, NoTerm."""
        book = self._book(lib)
        having = [entry for entry in book.entries if hole in holes_of(entry.item)]
        if not having:
            raise NoHole(hole)
        if not is_term(term):
            raise NoTerm("a term is wanted")
        return self.change(lib, filled(having[0].item, hole, term))

    def picture(self, lib):
        """A picture of a library as it is now; told is its number. Holed."""
        holes = [row[0] for row in self.holes(lib)]
        if holes:
            raise Holed(holes[0])
        self._editions.append(self._now().with_picture(lib))
        return self._now().many_pictures(lib)

    def back(self, many):
        """All as it was behind so many deeds; NoBack."""
        if not is_count(many) or many >= len(self._editions):
            raise NoBack(many)
        del self._editions[many + 1:]

    def libraries(self):
        """The names of the libraries, rising."""
        return tuple(sorted(list(self._now().books)))

    def typed(self, lib):
        """The items of a library as typed."""
        self._book(lib)
        return self._now().typed_items(lib)

    def holes(self, lib):
        """The rows (name, around, manner, wish) of a library's holes, by names, rising."""
        rows = [row for entry in self._book(lib).entries for row in entry.wished]
        return tuple(sorted(rows, key=lambda row: row[0]))

    def paper(self, lib, name):
        """A paper of the item that has this name."""
        return self._entry(lib, name).told_paper

    def scope(self, lib):
        """The Scope of a library."""
        return self._book(lib).scope

    def pictures(self, lib):
        """How many pictures there are of a library."""
        self._book(lib)
        return self._now().many_pictures(lib)

    def picture_of(self, lib, n):
        """The items of a picture of a library; NoPicture."""
        self._book(lib)
        if not is_count(n) or (lib, n) not in self._now().shelf:
            raise NoPicture(n)
        return self._now().shelf[(lib, n)].far_items

    def hangs_on(self, lib, name):
        """The names that the item that has this name reads, and those that it unfolds."""
        entry = self._entry(lib, name)
        return entry.read, entry.unfolded

    def run(self, lib, term, *, most=MOST):
        """The worth of a closed term and how many steps its run goes; Unjudged, Holed."""
        scope = self._book(lib).scope
        kind_of(scope, term, most=most)
        return run_of(scope, term, most=most)
