"""Knowledge: what some parties, trusted together, show."""

from rebuiltby.closing import clashes_with, reasons_of
from rebuiltby.errors import NotUsable
from rebuiltby.helper import ascending, has_party, names_of, need_name, need_party, sources_in


class Knowledge:
    """What some parties, trusted together, show; it never changes."""

    def __init__(self, book, *trusted):
        for k, name in enumerate(trusted):
            if not has_party(book, name):
                raise NotUsable("trusted", k)
        parties = ascending(list(trusted))
        reasons = reasons_of(book, parties, ())
        self._book = book
        self._trusted = parties
        self._facts = ascending(list(reasons))
        self._clashes = clashes_with(book, parties, reasons)

    @property
    def trusted(self):
        """The set of the parties that are trusted."""
        return self._trusted

    @property
    def facts(self):
        """The set of the facts that they show."""
        return self._facts

    @property
    def clashes(self):
        """The set of the clashes that they show."""
        return self._clashes

    def __contains__(self, x):
        return x in self._facts

    def __len__(self):
        return len(self._facts)

    def __bool__(self):
        return not self._clashes

    def __call__(self, file):
        need_name("file", file)
        return sources_in(self._facts, file)

    def __add__(self, other):
        need_party("party", self._book, other)
        names = [*self._trusted, other]
        return Knowledge(self._book, *names)

    def __sub__(self, other):
        need_party("party", self._book, other)
        names = [name for name in self._trusted if name != other]
        return Knowledge(self._book, *names)

    def __and__(self, other):
        if not isinstance(other, Knowledge) or self._book != other._book:
            raise NotUsable("other", -1)
        names = [name for name in self._trusted if name in other._trusted]
        return Knowledge(self._book, *names)

    def __or__(self, other):
        if not isinstance(other, Knowledge) or self._book != other._book:
            raise NotUsable("other", -1)
        names = [*self._trusted, *other._trusted]
        return Knowledge(self._book, *names)

    def __le__(self, other):
        if not isinstance(other, Knowledge):
            return NotImplemented
        return all([fact in other._facts for fact in self._facts])

    def __ge__(self, other):
        if not isinstance(other, Knowledge):
            return NotImplemented
        return all([fact in self._facts for fact in other._facts])

    def __eq__(self, other):
        return isinstance(other, Knowledge) and self._book == other._book and self._trusted == other._trusted

    @classmethod
    def of_all(cls, book):
        """Return what all parties together show."""
        names = names_of(book[1])
        return cls(book, *names)

    @staticmethod
    def nothing(book):
        """Return what no party shows."""
        return Knowledge(book)
