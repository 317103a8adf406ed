"""What the lines of books, and their texts, are read as."""

from rebuiltby.errors import InvalidText
from rebuiltby.kinds import is_name, is_names, is_set

# The kinds of lines, in the order in which they stand in a text, and the number of their words.
KINDS = ("source", "party", "unlike", "build")
MANY_WORDS = {"source": 6, "party": 3, "unlike": 3, "build": 6}
DIGITS = "0123456789"
MOST_DIGITS = 60


def source_read(text, *, line=0):
    """Return the source that the text writes; line is what an error tells."""
    _, name, language, manner, compiles, uses = words_of("source", text, line)
    return name, language, names_in(compiles), manner == "steady", names_in(uses)


def party_read(text, *, line=0):
    """Return the party that the text writes; line is what an error tells."""
    _, name, weight = words_of("party", text, line)
    return name, int(weight)


def unlike_read(text, *, line=0):
    """Return the pair of sources told unlike that the text writes; line is what an error tells."""
    _, one, other = words_of("unlike", text, line)
    return one, other


def build_read(text, *, line=0):
    """Return the build that the text writes; line is what an error tells."""
    _, party, compiler, source, parts, file = words_of("build", text, line)
    return party, None if compiler == "-" else compiler, source, names_in(parts), file


def book_read(text):
    """Return what the text writes; it is of the form of a book, but may be none."""
    lines = text.split("\n") if text else []
    rows = ([], [], [], [])
    place = 0
    for at, line in enumerate(lines):
        # Neither a kind that stands earlier nor an unknown word may begin a line from here on.
        word = line.split(" ")[0]
        if word not in KINDS[place:]:
            raise InvalidText(at, 0)
        place = KINDS.index(word)
        rows[place].append(line_read(word, line, at))
    return tuple([tuple(row) for row in rows])


def line_read(kind, text, line):
    """Return what the text writes as a line of this kind."""
    if kind == "source":
        return source_read(text, line=line)
    if kind == "party":
        return party_read(text, line=line)
    if kind == "unlike":
        return unlike_read(text, line=line)
    return build_read(text, line=line)


def words_of(kind, text, line):
    """Return the words of the text, a line of this kind; raise InvalidText if it is none."""
    words = text.split(" ")
    for field in range(len(words)):
        if field >= MANY_WORDS[kind] or not can_stand(kind, words, field):
            raise InvalidText(line, field)
    if len(words) < MANY_WORDS[kind]:
        raise InvalidText(line, len(words))
    return words


def can_stand(kind, words, field):
    """Tell whether the word of this field can stand in a line of this kind, behind those before it."""
    word = words[field]
    if field == 0:
        return word == kind
    if kind == "source" and field == 3:
        return word in ("steady", "loose")
    if kind == "source" and field > 3:
        return is_set(names_in(word))
    if kind == "party" and field == 2:
        return is_weight(word)
    if kind == "build" and field == 2:
        return word == "-" or is_name(word)
    if kind == "build" and field == 4:
        return word == "-" or words[2] != "-" and is_names(names_in(word))
    return is_name(word)


def names_in(word):
    """Return the names, or what stands in their place, that the word lists."""
    return () if word == "-" else tuple(word.split(","))


def is_weight(word):
    """Tell whether the word writes an integer from 1 on, with at most sixty digits."""
    if not 1 <= len(word) <= MOST_DIGITS or word[0] == "0":
        return False
    return all([sign in DIGITS for sign in word])
