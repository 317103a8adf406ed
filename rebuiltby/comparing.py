"""Whether two books show the same, and where they do not."""

from rebuiltby.bookchecker import is_accepted
from rebuiltby.closing import clashes_with, reasons_of
from rebuiltby.errors import NotUsable
from rebuiltby.helper import ascending
from rebuiltby.stepsmaking import steps_to, steps_to_clash


def are_alike(book, other):
    """Tell whether the two books show the same."""
    return difference(book, other) is None


def difference(book, other):
    """Return a difference of the two books, None if they show the same."""
    check_other(book, other)
    # Whatever one book shows and the other one does not, some build, or two builds that part, is
    # the first in a chain of steps to go beyond the other book; what is needed for this is enough.
    cases = {case: True for case in cases_of(book, other) + cases_of(other, book)}
    for trusted, supposed in cases:
        found = difference_at(book, other, trusted, supposed)
        if found is not None:
            return found
    return None


def check_other(book, other):
    """Check that any value is a book with the same sources, parties and pairs told unlike."""
    if not is_accepted(other) or other[:3] != book[:3]:
        raise NotUsable("other", -1)


def cases_of(book, other):
    """Return the trusted parties and the facts that builds need which the other book lacks, as a list."""
    known = {build: True for build in other[3]}
    cases = []
    for build in book[3]:
        if build not in known:
            cases = cases + [((build[0],), premises) for premises in premises_for(book, build)]
    steady = [source[0] for source in book[0] if source[3]]
    for k, m in parting_builds(book):
        one, two = book[3][k], book[3][m]
        if one not in known or two not in known:
            parties = ascending([one[0], two[0]])
            cases = cases + [(parties, ascending([(one[1], name), (two[1], name)])) for name in steady]
    return cases


def premises_for(book, build):
    """Return the sets of facts by each of which a build gives its file, as a list."""
    if build[1] is None:
        return [()]
    rows = {source[0]: source for source in book[0]}
    language, uses = rows[build[2]][1], rows[build[2]][4]
    parts = list(zip(build[3], uses))
    return [ascending([(build[1], name), *parts]) for name in rows if language in rows[name][2]]


def parting_builds(book):
    """Return the pairs of builds that are a clash if their compilers are right for one steady source."""
    builds = [(k, build) for k, build in enumerate(book[3]) if build[1] is not None]
    return [
        (k, m)
        for k, one in builds
        for m, other in builds
        if k < m and one[2:4] == other[2:4] and one[4] != other[4]
    ]


def difference_at(book, other, trusted, supposed):
    """Return a difference for these parties and facts, None if there is none."""
    books = (book, other)
    shown = [reasons_of(either, trusted, supposed) for either in books]
    calm = [not clashes_with(books[n], trusted, shown[n]) for n in (0, 1)]
    for side in (0, 1):
        facts, table = shown[side], shown[1 - side]
        if calm[1 - side] and not calm[side]:
            steps = steps_to_clash(books[side], trusted, supposed=supposed)
            return side, trusted, supposed, (), steps, ascending(list(table))
        more = [fact for fact in facts if fact not in table]
        if calm[1 - side] and more:
            steps = steps_to(books[side], trusted, more[0][0], more[0][1], supposed=supposed)
            return side, trusted, supposed, more[0], steps, ascending(list(table))
    return None
