"""What the lines of books, and their texts, are read as."""

from rebuiltby.errors import InvalidText
from rebuiltby.kinds import is_name, is_names, is_set

# The kinds of the lines of a book, in the order in which they stand in a text.
KINDS = ("source", "party", "unlike", "build")
# What the words of each kind of line are, those of logs too; the first word is the kind itself.
FORMS = {
    "source": ("kind", "name", "name", "manner", "set", "set"),
    "party": ("kind", "name", "weight"),
    "unlike": ("kind", "name", "name"),
    "build": ("kind", "name", "compiler", "name", "parts", "name"),
    "weight": ("kind", "name", "weight"),
    "claim": ("kind", "name", "name"),
    "budget": ("kind", "number"),
    "watch": ("kind", "number", "number"),
}
DIGITS = "0123456789"
MOST_DIGITS = 60


def source_read(text, *, line=0):
    """Return the source that the text writes; line is what an error tells."""
    _, name, language, manner, compiles, uses = words_of("source", text, line)
    return name, language, names_in(compiles), manner == "steady", names_in(uses)


def party_read(text, *, line=0):
    """Return the party that the text writes; line is what an error tells."""
    _, name, weight = words_of("party", text, line)
    return name, int(weight)


def unlike_read(text, *, line=0):
    """Return the pair of sources told unlike that the text writes; line is what an error tells."""
    _, one, other = words_of("unlike", text, line)
    return one, other


def build_read(text, *, line=0):
    """Return the build that the text writes; line is what an error tells."""
    _, party, compiler, source, parts, file = words_of("build", text, line)
    return party, None if compiler == "-" else compiler, source, names_in(parts), file


def book_read(text):
    """Return what the text writes; it is of the form of a book, but may be none."""
    return lines_read(text.split("\n") if text else [], 0)


def lines_read(lines, first):
    """Return what the lines of a book write; first is the index that an error tells of the first one."""
    rows = ([], [], [], [])
    place = 0
    for at, line in enumerate(lines):
        # Neither a kind that stands earlier nor an unknown word may begin a line from here on.
        word = line.split(" ")[0]
        if word not in KINDS[place:]:
            raise InvalidText(first + at, 0)
        place = KINDS.index(word)
        rows[place].append(line_read(word, line, first + at))
    return tuple([tuple(row) for row in rows])


def line_read(kind, text, line):
    """Return what the text writes as a line of this kind."""
    if kind == "source":
        return source_read(text, line=line)
    if kind == "party":
        return party_read(text, line=line)
    if kind == "unlike":
        return unlike_read(text, line=line)
    return build_read(text, line=line)


def words_of(kind, text, line):
    """Return the words of the text, a line of this kind; raise InvalidText if it is none."""
    words = text.split(" ")
    many = len(FORMS[kind])
    for field in range(len(words)):
        if field >= many or not can_stand(kind, words, field):
            raise InvalidText(line, field)
    if len(words) < many:
        raise InvalidText(line, len(words))
    return words


def can_stand(kind, words, field):
    """Tell whether the word of this field can stand in a line of this kind, behind those before it."""
    form = FORMS[kind][field]
    word = words[field]
    if form == "kind":
        return word == kind
    if form == "manner":
        return word in ("steady", "loose")
    if form == "set":
        return is_set(names_in(word))
    if form == "weight":
        return is_weight(word)
    if form == "number":
        return is_count(word)
    if form == "compiler":
        return word == "-" or is_name(word)
    if form == "parts":
        return word == "-" or words[2] != "-" and is_names(names_in(word))
    return is_name(word)


def names_in(word):
    """Return the names, or what stands in their place, that the word lists."""
    return () if word == "-" else tuple(word.split(","))


def is_weight(word):
    """Tell whether the word writes an integer from 1 on, with at most sixty digits."""
    if not 1 <= len(word) <= MOST_DIGITS or word[0] == "0":
        return False
    return all([sign in DIGITS for sign in word])


def is_count(word):
    """Tell whether the word writes a number, with at most sixty digits."""
    return word == "0" or is_weight(word)
