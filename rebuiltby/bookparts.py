"""Parts of books."""

from rebuiltby.helper import ascending, need_name, need_parties, need_party, need_source, reached


def files_of(book):
    """Return the set of the files, the compilers and the parts of the builds."""
    return ascending([file for build in book[3] for file in files_in(build)])


def files_in(build):
    """Return the files that a build names."""
    if build[1] is None:
        return build[4:]
    return (build[1],) + build[3] + build[4:]


def weight_of(book, parties):
    """Return the weight of a set of parties."""
    need_parties("parties", book, parties)
    return sum([weight for name, weight in book[1] if name in parties])


def builds_by(book, party):
    """Return the indexes of the builds of a party, ascending."""
    need_party("party", book, party)
    return tuple([k for k, build in enumerate(book[3]) if build[0] == party])


def builds_of(book, file):
    """Return the indexes of the builds that end in a file, ascending."""
    need_name("file", file)
    return tuple([k for k, build in enumerate(book[3]) if build[4] == file])


def compiling(book, language):
    """Return the set of the sources that compile a language."""
    need_name("language", language)
    return tuple([source[0] for source in book[0] if language in source[2]])


def uses_below(book, source):
    """Return the set of the sources that are reached from a source by uses."""
    need_source("source", book, source)
    return ascending(list(reached({row[0]: row[4] for row in book[0]}, source)))
