"""What trusted parties show: facts, clashes and classes."""

from rebuiltby.helper import ascending, names_of, need_facts, need_parties


def facts_of(book, trusted, *, supposed=()):
    """Return the set of all facts that the rules give, whether there is a clash or not."""
    check_given(book, trusted, supposed)
    return ascending(list(reasons_of(book, trusted, supposed)))


def clashes_of(book, trusted, *, supposed=()):
    """Return the set of all clashes with the facts that the rules give."""
    check_given(book, trusted, supposed)
    return clashes_with(book, trusted, reasons_of(book, trusted, supposed))


def is_calm(book, trusted, *, supposed=()):
    """Tell whether there is no clash."""
    check_given(book, trusted, supposed)
    return not clashes_with(book, trusted, reasons_of(book, trusted, supposed))


def classes_of(book, trusted, *, supposed=()):
    """Return the set of the sets of sources that some file joins by the facts that the rules give."""
    check_given(book, trusted, supposed)
    return classes_by(book, reasons_of(book, trusted, supposed))


def check_given(book, trusted, supposed):
    """Check the trusted parties and the supposed facts."""
    need_parties("trusted", book, trusted)
    need_facts("supposed", book, supposed)


def reasons_of(book, trusted, supposed):
    """Return a dict of all facts that the rules give, each behind those that its reason names.

    A reason is ("supposed", n), ("vouched", k), ("built", k, fact, facts) with the fact of the
    compiler and those of the parts, or ("moved", fact, fact, fact) as a step names them.
    """
    reasons = given_reasons(book, trusted, supposed)
    many = -1
    while many < len(reasons):
        many = len(reasons)
        reasons = with_moved(with_built(book, trusted, reasons))
    return reasons


def given_reasons(book, trusted, supposed):
    """Return the reasons of the facts that are supposed or vouched for."""
    reasons = {}
    for n, fact in enumerate(supposed):
        reasons[fact] = ("supposed", n)
    for k, build in enumerate(book[3]):
        fact = (build[4], build[2])
        if build[1] is None and build[0] in trusted and fact not in reasons:
            reasons[fact] = ("vouched", k)
    return reasons


def with_built(book, trusted, reasons):
    """Return the reasons with those of facts that builds of trusted parties give by them."""
    sources = {source[0]: source for source in book[0]}
    known = {}
    for fact in reasons:
        known[fact] = reasons[fact]
    for k, build in enumerate(book[3]):
        fact = (build[4], build[2])
        if build[1] is not None and build[0] in trusted and fact not in known:
            premises = premises_of(build, sources, known)
            if premises:
                known[fact] = ("built", k, premises[0], premises[1:])
    return known


def premises_of(build, sources, known):
    """Return the known facts by which a build gives its file, the compiler's first, or ()."""
    language, uses = sources[build[2]][1], sources[build[2]][4]
    right = [name for name in sources if language in sources[name][2] and (build[1], name) in known]
    parts = list(zip(build[3], uses))
    if not right or not all([fact in known for fact in parts]):
        return ()
    return ((build[1], right[0]), *parts)


def with_moved(reasons):
    """Return the reasons with those of facts that they give as files are right for two sources."""
    known = {}
    for fact in reasons:
        known[fact] = reasons[fact]
    links = links_in(reasons)
    for one, other in links:
        file = links[(one, other)]
        for shown, source in list(known):
            if source == one and (shown, other) not in known:
                known[(shown, other)] = ("moved", (shown, one), (file, one), (file, other))
    return known


def links_in(facts):
    """Return a dict with a file for each pair of sources for which some file is right."""
    sources = {}
    for file, source in facts:
        sources[file] = sources.get(file, ()) + (source,)
    links = {}
    for file in sources:
        for one in sources[file]:
            for other in sources[file]:
                if one != other:
                    links[(one, other)] = file
    return links


def classes_by(book, facts):
    """Return the set of the sets of sources that some file joins by all facts that the rules give."""
    links = links_in(facts)
    return ascending([joined_by(book, links, source[0]) for source in book[0]])


def joined_by(book, links, name):
    """Return the set of the sources to which these links join a source, itself too."""
    return tuple([other for other in names_of(book[0]) if other == name or (name, other) in links])


def clashes_with(book, trusted, facts):
    """Return the set of the clashes of trusted parties with all facts that the rules give."""
    return ascending(unlike_clashes(book, facts) + parted_clashes(book, trusted, facts))


def unlike_clashes(book, facts):
    """Return the clashes of files that are right for two sources told unlike, as a list."""
    return [
        ("unlike", file, one, other)
        for file, source in facts
        for one, other in book[2]
        if source == one and (file, other) in facts
    ]


def parted_clashes(book, trusted, facts):
    """Return the clashes of builds that gave different files, as a list."""
    steady = steady_sources(book, facts)
    groups = {}
    for k, build in enumerate(book[3]):
        if build[0] in trusted and build[1] in steady:
            group = (steady[build[1]], build[2], build[3])
            groups[group] = groups.get(group, ()) + (k,)
    return [
        ("parted", k, m)
        for group in groups
        for k in groups[group]
        for m in groups[group]
        if k < m and book[3][k][4] != book[3][m][4]
    ]


def steady_sources(book, facts):
    """Return a dict with the first steady source for which each file is right, if there is one."""
    # Files that are right for one source are right for the same ones, so the first ones tell
    # whether two files are right for one steady source.
    found = {}
    for name, _, _, steady, _ in book[0]:
        if steady:
            for file, source in facts:
                if source == name and file not in found:
                    found[file] = name
    return found
