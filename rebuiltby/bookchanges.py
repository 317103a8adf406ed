"""Changes of books: each function returns the changed book."""

from rebuiltby.bookchecker import is_accepted
from rebuiltby.bookparts import files_of
from rebuiltby.errors import NotUsable
from rebuiltby.helper import ascending, has_source, need_party, need_source
from rebuiltby.kinds import is_build, is_fact, is_integer, is_number


def with_build(book, build, *, at=None):
    """Return the book with the build ahead of that with the index at; None stands for the end."""
    sources, parties, unlike, builds = book
    if not is_build(build):
        raise NotUsable("build", -1)
    if at is None:
        return sources, parties, unlike, (*builds, build)
    if not is_number(at) or at > len(builds):
        raise NotUsable("at", -1)
    return sources, parties, unlike, builds[:at] + (build,) + builds[at:]


def without_build(book, k):
    """Return the book without build k."""
    sources, parties, unlike, builds = book
    if not is_number(k) or k >= len(builds):
        raise NotUsable("k", -1)
    return sources, parties, unlike, builds[:k] + builds[k + 1:]


def with_weight(book, party, weight):
    """Return the book in which the party has this weight."""
    sources, parties, unlike, builds = book
    need_party("party", book, party)
    if not is_integer(weight) or weight < 1:
        raise NotUsable("weight", -1)
    changed = tuple([(name, weight if name == party else old) for name, old in parties])
    return sources, changed, unlike, builds


def with_unlike(book, one, other):
    """Return the book in which the two sources are told unlike."""
    sources, parties, unlike, builds = book
    pair = pair_of(book, one, other)
    if pair in unlike:
        raise NotUsable("twice", -1)
    return sources, parties, ascending([*unlike, pair]), builds


def without_unlike(book, one, other):
    """Return the book in which the two sources are not told unlike."""
    sources, parties, unlike, builds = book
    pair = pair_of(book, one, other)
    if pair not in unlike:
        raise NotUsable("unlike", -1)
    return sources, parties, tuple([row for row in unlike if row != pair]), builds


def pair_of(book, one, other):
    """Return the pair of two sources of the book, the lesser name first."""
    need_source("one", book, one)
    if not has_source(book, other) or other == one:
        raise NotUsable("other", -1)
    return ascending([one, other])


def joined(book, other):
    """Return the book with the builds and the pairs told unlike of the other one, too."""
    sources, parties, unlike, builds = book
    if not is_accepted(other) or other[0] != sources or other[1] != parties:
        raise NotUsable("other", -1)
    known = {build: True for build in builds}
    more = [build for build in other[3] if build not in known]
    return sources, parties, ascending(list(unlike + other[2])), (*builds, *more)


def renamed(book, *, parties=(), sources=(), files=()):
    """Return the book with the names of the tables in the place of the old ones."""
    new_parties = new_names("parties", parties, [party[0] for party in book[1]])
    new_sources = new_names("sources", sources, [source[0] for source in book[0]])
    new_files = new_names("files", files, files_of(book))
    uses = {source[0]: source[4] for source in book[0]}
    builds = []
    for party, compiler, source, parts, file in book[3]:
        compiled_by = None if compiler is None else new_files[compiler]
        new_parts = parts_in_order(uses[source], parts, new_sources, new_files)
        builds.append((new_parties[party], compiled_by, new_sources[source], new_parts, new_files[file]))
    return (
        ascending([source_in_order(source, new_sources) for source in book[0]]),
        ascending([(new_parties[name], weight) for name, weight in book[1]]),
        ascending([ascending([new_sources[one], new_sources[other]]) for one, other in book[2]]),
        tuple(builds),
    )


def new_names(word, table, names):
    """Return a dict with the new name of each name; the word is the name of the table."""
    if not isinstance(table, tuple) or not all([is_fact(pair) for pair in table]):
        raise NotUsable(word, -1)
    changed = {old: new for old, new in table}
    found = {name: changed.get(name, name) for name in names}
    if len(changed) < len(table) or len(ascending(list(found.values()))) < len(names):
        raise NotUsable(word, -1)
    return found


def source_in_order(source, new_sources):
    """Return the source with new names, its uses ascending."""
    name, language, compiles, steady, uses = source
    return new_sources[name], language, compiles, steady, ascending([new_sources[use] for use in uses])


def parts_in_order(uses, parts, new_sources, new_files):
    """Return the parts with new names, each where the new name of its use stands."""
    rows = ascending([(new_sources[use], new_files[part]) for use, part in zip(uses, parts)])
    return tuple([part for _, part in rows])
