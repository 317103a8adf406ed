"""The checker of books."""

from rebuiltby.errors import InvalidPaper
from rebuiltby.helper import reached
from rebuiltby.kinds import is_build, is_fact, is_party, is_row, is_source


def lets_book(thing):
    """Return how many builds a book has; of any other value raise InvalidPaper."""
    if not is_row(thing, 4) or not all([isinstance(part, tuple) for part in thing]):
        raise InvalidPaper("shape", -1)
    sources, parties, unlike, builds = thing
    check_sources(sources)
    check_uses({source[0]: source[4] for source in sources})
    check_parties(parties)
    check_unlike(sources, unlike)
    check_builds(sources, parties, builds)
    return len(builds)


def is_accepted(thing):
    """Tell whether any value is a book that lets_book accepts."""
    try:
        lets_book(thing)
    except InvalidPaper:
        return False
    return True


def check_sources(sources):
    """Check each source by itself, and that the names ascend."""
    for i, source in enumerate(sources):
        if not is_source(source) or i > 0 and not sources[i - 1][0] < source[0]:
            raise InvalidPaper("source", i)


def check_uses(uses):
    """Check the uses of all sources, a set for each name in the order of the sources."""
    for i, name in enumerate(uses):
        if not all([use in uses for use in uses[name]]):
            raise InvalidPaper("uses", i)
    for i, name in enumerate(uses):
        if name in reached(uses, name):
            raise InvalidPaper("ring", i)


def check_parties(parties):
    """Check each party by itself, and that the names ascend."""
    for i, party in enumerate(parties):
        if not is_party(party) or i > 0 and not parties[i - 1][0] < party[0]:
            raise InvalidPaper("party", i)


def check_unlike(sources, unlike):
    """Check the pairs that are told unlike, and that they ascend."""
    names = {source[0]: True for source in sources}
    for i, pair in enumerate(unlike):
        if not is_fact(pair) or pair[0] not in names or pair[1] not in names:
            raise InvalidPaper("unlike", i)
        if not pair[0] < pair[1] or i > 0 and not unlike[i - 1] < pair:
            raise InvalidPaper("unlike", i)


def check_builds(sources, parties, builds):
    """Check each build with the sources, the parties and the builds before it."""
    names = {party[0]: True for party in parties}
    uses = {source[0]: source[4] for source in sources}
    before = {}
    for k, build in enumerate(builds):
        if not is_build(build):
            raise InvalidPaper("build", k)
        if build[0] not in names:
            raise InvalidPaper("by", k)
        if build[2] not in uses:
            raise InvalidPaper("of", k)
        if build[1] is not None and len(build[3]) != len(uses[build[2]]):
            raise InvalidPaper("parts", k)
        if build in before:
            raise InvalidPaper("twice", k)
        before[build] = True
