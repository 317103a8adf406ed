"""What stays unseen: answers by which the parties that are not bad never show a claim."""

from rebuiltby.bookchanges import with_build
from rebuiltby.bookparts import files_of
from rebuiltby.claimnumbers import others_of
from rebuiltby.closing import premises_of, reasons_of
from rebuiltby.errors import NotUsable
from rebuiltby.helper import ascending, need_name, need_parties, need_source, sources_in
from rebuiltby.leastsets import wrong_sets
from rebuiltby.ordering import facts_if_open
from rebuiltby.orderkinds import facts_by_all
from rebuiltby.rounds import check_claim_in, without_orders


def unseen_sets(book, file, source):
    """Return the set of the least sets without which the others do not show the claim in the full book."""
    facts = facts_if_open(book)
    check_claim_in(book, file, source)
    # The full book is calm, so each set is a bad one.
    return wrong_sets(without_orders(book, facts), file, source)


class Unseen:
    """Answers builds so that the parties that are not bad never show the claim."""

    def __init__(self, book, bad, file, source):
        facts = facts_if_open(book)
        need_parties("bad", book, bad)
        check_claim_in(book, file, source)
        full = without_orders(book, facts)
        shown = ascending(list(reasons_of(full, others_of(book, bad), ())))
        if (file, source) in shown:
            raise NotUsable("unseen", -1)
        self._bad = bad
        # What the others show in the full book, and the builds of it that all parties together show.
        self._shown = shown
        self._answers = builds_shown(full)
        self._book = book
        self._added = []

    @property
    def bad(self):
        """The set of the parties that are bad."""
        return self._bad

    @property
    def book_now(self):
        """The book as it is."""
        return self._book

    @property
    def table_now(self):
        """The set of the facts that the others show in the full book, of the files of the book as it is."""
        files = files_of(self._book)
        return tuple([fact for fact in self._shown if fact[0] in files])

    def __len__(self):
        return len(self._added)

    def __getitem__(self, at):
        need_name("file", at)
        return sources_in(self._shown, at)

    def __iter__(self):
        raise TypeError("an Unseen is not iterated over")

    def give(self, party, compiler, source, parts):
        """Return the file that the build of these four gives."""
        found = [build for build in self._answers if build[:4] == (party, compiler, source, parts)]
        if not found:
            raise NotUsable("order", -1)
        build = found[0]
        if build not in self._book[3]:
            self._book = with_build(self._book, build)
            self._added.append(build)
        return build[4]

    def is_right(self, file, source):
        """Tell whether the others show the fact in the full book."""
        need_name("file", file)
        need_source("source", self._book, source)
        return (file, source) in self._shown


def builds_shown(book):
    """Return the builds of which all parties show the compiler and the parts to be right, as a list."""
    facts = facts_by_all(book)
    sources = {source[0]: source for source in book[0]}
    return [build for build in book[3] if premises_of(build, sources, facts)]
