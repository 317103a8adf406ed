"""The lines by which books are written."""


def listed(names):
    """Return one word for several names."""
    return ",".join(names) if names else "-"


def source_line(source):
    """Return the line of a source."""
    name, language, compiles, steady, uses = source
    manner = "steady" if steady else "loose"
    return f"source {name} {language} {manner} {listed(compiles)} {listed(uses)}"


def party_line(party):
    """Return the line of a party."""
    name, weight = party
    return f"party {name} {weight}"


def unlike_line(pair):
    """Return the line of two sources that are told unlike."""
    one, other = pair
    return f"unlike {one} {other}"


def build_line(build):
    """Return the line of a build."""
    party, compiler, source, parts, file = build
    given = "-" if compiler is None else compiler
    return f"build {party} {given} {source} {listed(parts)} {file}"


def book_text(book):
    """Return the lines of a book, with newlines between."""
    sources, parties, unlike, builds = book
    source_lines = [source_line(source) for source in sources]
    party_lines = [party_line(party) for party in parties]
    unlike_lines = [unlike_line(pair) for pair in unlike]
    build_lines = [build_line(build) for build in builds]
    return "\n".join([*source_lines, *party_lines, *unlike_lines, *build_lines])
