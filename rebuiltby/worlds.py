"""Worlds that answer further rows.

A state is what a World has: a triple of a book, a table and the rows that were given, each with
its answer.
"""

from rebuiltby.bookchanges import with_build
from rebuiltby.bookparts import files_of
from rebuiltby.claimnumbers import others_of
from rebuiltby.closing import joined_by, links_in, premises_of
from rebuiltby.errors import NotUsable
from rebuiltby.helper import ascending, need_name, need_parties, need_party, need_source, sources_in
from rebuiltby.kinds import is_names, is_row
from rebuiltby.ordering import fresh_file
from rebuiltby.tablechecker import lets_table


class World:
    """A world in which some parties are bad, and which answers further rows."""

    def __init__(self, book, bad, table):
        need_parties("bad", book, bad)
        lets_table(book, others_of(book, bad), table)
        self._first = (book, bad, table)
        self._state = (book, table, ())

    @property
    def bad(self):
        """The set of the parties that are bad."""
        return self._first[1]

    @property
    def book_now(self):
        """The book as it is."""
        return self._state[0]

    @property
    def table_now(self):
        """The table as it is."""
        return self._state[1]

    def __len__(self):
        return len(self._state[2])

    def __getitem__(self, at):
        need_name("file", at)
        return sources_in(self._state[1], at)

    def __iter__(self):
        raise TypeError("a World is not iterated over")

    def give(self, party, compiler, source, parts):
        """Give a row and return its answer."""
        self._state = self._state_with(self._state, (party, compiler, source, parts))
        return self._state[2][-1][4]

    def is_right(self, file, source):
        """Tell whether the table has the file right for the source."""
        need_name("file", file)
        need_source("source", self._state[0], source)
        return (file, source) in self._state[1]

    def copy(self):
        """Return a new World in the same state."""
        book, bad, table = self._first
        other = World(book, bad, table)
        other._state = self._state
        return other

    def tried(self, rows):
        """Return the answers that the rows would get, one after the other; nothing changes."""
        if not isinstance(rows, tuple):
            raise NotUsable("rows", -1)
        for k, row in enumerate(rows):
            if not is_row(row, 4):
                raise NotUsable("rows", k)
        state = self._state
        for row in rows:
            state = self._state_with(state, row)
        return tuple([build[4] for build in state[2][len(self._state[2]):]])

    def _state_with(self, state, row):
        """Return the state after a row that is given in a state of this World."""
        check_row(state[0], row)
        book, bad, _ = self._first
        true_builds = tuple([build for build in book[3] if build[0] not in bad])
        return state_after(true_builds, state, row)


def check_row(book, row):
    """Check the elements of a row, whatever they are."""
    party, compiler, source, parts = row
    need_party("party", book, party)
    need_name("compiler", compiler)
    need_source("source", book, source)
    uses = [told[4] for told in book[0] if told[0] == source]
    if not is_names(parts) or len(parts) != len(uses[0]):
        raise NotUsable("parts", -1)


def state_after(true_builds, state, row):
    """Return the state after a possible row; true builds are those of the first book."""
    book, table, rows = state
    file = file_told(book, table, true_builds + rows, row)
    if file is None:
        taken = [shown for shown, _ in table] + list(files_of(book) + row[1:2] + row[3])
        file = fresh_file(taken)
        table = table_with(book, table, row, file)
    build = (*row, file)
    more = book if build in book[3] else with_build(book, build)
    return more, table, (*rows, build)


def file_told(book, table, builds, row):
    """Return the file that one of the builds tells to be the answer, None if none does."""
    names = sources_in(table, row[1])
    if not any([steady and name in names for name, _, _, steady, _ in book[0]]):
        return None
    for _, compiler, source, parts, file in builds:
        if (source, parts) == row[2:] and sources_in(table, compiler) == names:
            return file
    return None


def table_with(book, table, row, file):
    """Return the table with what the row shows of its answer, a file that is fresh."""
    sources = {source[0]: source for source in book[0]}
    if not premises_of((*row, file), sources, table):
        return table
    more = [(file, name) for name in joined_by(book, links_in(table), row[2])]
    return ascending([*table, *more])
