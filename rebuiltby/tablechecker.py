"""The checker of tables."""

from rebuiltby.closing import parted_clashes, premises_of
from rebuiltby.errors import InvalidPaper
from rebuiltby.helper import ascending, has_source, need_facts, need_parties
from rebuiltby.kinds import is_fact


def lets_table(book, trusted, thing, *, supposed=()):
    """Return how many facts a table for the trusted parties has."""
    need_parties("trusted", book, trusted)
    need_facts("supposed", book, supposed)
    if not isinstance(thing, tuple) or not all([is_fact(fact) for fact in thing]):
        raise InvalidPaper("shape", -1)
    check_facts(book, thing)
    at = {fact: n for n, fact in enumerate(thing)}
    for n, fact in enumerate(supposed):
        if fact not in at:
            raise InvalidPaper("supposed", n)
    check_rules(book, trusted, at)
    check_moved(thing, at)
    check_unlike(book, thing, at)
    check_parted(book, trusted, at)
    return len(thing)


def check_table(book, trusted, thing, supposed):
    """Check the table of another paper: at tells what is wrong with the table itself."""
    try:
        lets_table(book, trusted, thing, supposed=supposed)
    except InvalidPaper as error:
        raise InvalidPaper("table", (error.word, error.at)) from None


def check_facts(book, table):
    """Check that the facts ascend, and that their sources are the book's."""
    for n, fact in enumerate(table):
        if n > 0 and not table[n - 1] < fact:
            raise InvalidPaper("order", n)
        if not has_source(book, fact[1]):
            raise InvalidPaper("fact", n)


def check_rules(book, trusted, at):
    """Check that the table has what the builds of trusted parties give from it."""
    sources = {source[0]: source for source in book[0]}
    for k, build in enumerate(book[3]):
        if build[0] in trusted and (build[4], build[2]) not in at:
            if build[1] is None:
                raise InvalidPaper("vouched", k)
            if premises_of(build, sources, at):
                raise InvalidPaper("built", k)


def check_moved(table, at):
    """Check that files that are right for one source are right for the same sources."""
    numbers = {}
    for l, (file, _) in enumerate(table):
        numbers[file] = numbers.get(file, ()) + (l,)
    for i, (one, source) in enumerate(table):
        for j, (other, same) in enumerate(table):
            if same == source:
                for l in numbers[other]:
                    if (one, table[l][1]) not in at:
                        raise InvalidPaper("moved", (i, j, l))


def check_unlike(book, table, at):
    """Check that no file is right for two sources that are told unlike."""
    for n, (file, source) in enumerate(table):
        # Of two facts of a file the one with the lesser source comes first.
        for one, other in book[2]:
            if source == one and (file, other) in at:
                raise InvalidPaper("unlike", n)


def check_parted(book, trusted, at):
    """Check that no two builds of trusted parties gave different files where they should not have."""
    clashes = ascending(parted_clashes(book, trusted, at))
    if clashes:
        raise InvalidPaper("parted", clashes[0][1:])
