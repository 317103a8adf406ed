"""Books as objects, which never change."""

from rebuiltby.bookchanges import joined, renamed, without_build
from rebuiltby.bookchecker import lets_book
from rebuiltby.bookparts import files_of
from rebuiltby.bookreadings import book_read
from rebuiltby.booktexts import book_text
from rebuiltby.errors import NotUsable
from rebuiltby.helper import ascending, need_name
from rebuiltby.kinds import is_name, is_number, is_party


class Book:
    """A book as an object."""

    def __init__(self, sources=(), parties=(), unlike=(), builds=()):
        form = (sources, parties, unlike, builds)
        lets_book(form)
        self._form = form
        self._builds = builds

    @property
    def sources(self):
        """The sources of the book."""
        return self._form[0]

    @property
    def parties(self):
        """The parties of the book."""
        return self._form[1]

    @property
    def unlike(self):
        """The pairs of sources that are told unlike."""
        return self._form[2]

    @property
    def builds(self):
        """The builds of the book."""
        return self._form[3]

    @property
    def form(self):
        """The tuple of the sources, the parties, the pairs told unlike and the builds."""
        return self._form

    @property
    def files(self):
        """The set of the files of the book."""
        return files_of(self._form)

    def __getitem__(self, at):
        if not is_number(at) or at >= len(self._builds):
            raise NotUsable("k", -1)
        return self._builds[at]

    def __contains__(self, x):
        return x in self._builds

    def __len__(self):
        return len(self._builds)

    def __iter__(self):
        return iter(self._builds)

    def __str__(self):
        return str(book_text(self._form))

    def __call__(self, file):
        need_name("file", file)
        return tuple([build for build in self._builds if build[4] == file])

    def __eq__(self, other):
        return isinstance(other, Book) and self._form == other._form

    def __le__(self, other):
        if not isinstance(other, Book) or self._form[:2] != other._form[:2]:
            return False
        if not all([pair in other._form[2] for pair in self._form[2]]):
            return False
        return all([build in other._builds for build in self._builds])

    def __add__(self, other):
        sources, parties, unlike, builds = self._form
        return Book(sources, parties, unlike, (*builds, other))

    def __or__(self, other):
        if not isinstance(other, Book):
            raise NotUsable("other", -1)
        sources, parties, unlike, builds = joined(self._form, other._form)
        return Book(sources, parties, unlike, builds)

    def without(self, k):
        """Return the Book without build k."""
        sources, parties, unlike, builds = without_build(self._form, k)
        return Book(sources, parties, unlike, builds)

    @classmethod
    def read(cls, text):
        """Return the Book that the text writes."""
        sources, parties, unlike, builds = book_read(text)
        return cls(sources, parties, unlike, builds)

    @staticmethod
    def plain(*names):
        """Return the Book with a party of weight 1 for each name, and nothing else."""
        for k, name in enumerate(names):
            if not is_name(name) or name in names[:k]:
                raise NotUsable("names", k)
        return Book((), ascending([(name, 1) for name in names]), (), ())


class Weighted(Book):
    """A Book in which parties have other weights than those told."""

    def __init__(self, sources, parties, unlike, builds, *weights):
        told = (sources, parties, unlike, builds)
        lets_book(told)
        super().__init__(sources, weighed(parties, weights), unlike, builds)
        self._told = told

    @property
    def told(self):
        """The four tuples as they were told."""
        return self._told


class Renamed(Book):
    """A Book in which files have other names than those told."""

    def __init__(self, sources, parties, unlike, builds, *, files=()):
        told = (sources, parties, unlike, builds)
        lets_book(told)
        changed = renamed(told, files=files)
        super().__init__(changed[0], changed[1], changed[2], changed[3])
        self._told = told

    @property
    def told(self):
        """The four tuples as they were told."""
        return self._told


def weighed(parties, weights):
    """Return the parties with the weights that the pairs give them, the last one for each."""
    found = {}
    for name, weight in parties:
        found[name] = weight
    for k, pair in enumerate(weights):
        if not is_party(pair) or pair[0] not in found:
            raise NotUsable("weights", k)
        found[pair[0]] = pair[1]
    return tuple([(name, found[name]) for name in found])
