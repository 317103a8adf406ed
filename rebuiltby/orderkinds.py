"""Orders: the builds that can be asked for, and what decides them."""

from rebuiltby.closing import classes_by, clashes_with, premises_of, reasons_of
from rebuiltby.errors import NotUsable
from rebuiltby.helper import ascending, has_party, has_source, names_of, reached
from rebuiltby.kinds import is_name, is_names


def orders(book):
    """Return the set of the orders of the book."""
    return orders_by(book, facts_by_all(book))


def is_decided(book, party, compiler, source, parts):
    """Tell whether the order of these four is decided."""
    facts = facts_by_all(book)
    order = (party, compiler, source, parts)
    if not is_order(book, facts, order):
        raise NotUsable("order", -1)
    return file_decided(book, facts, order) is not None


def facts_by_all(book):
    """Return a dict of all facts that all parties together show."""
    return reasons_of(book, names_of(book[1]), ())


def orders_by(book, facts):
    """Return the set of the orders of the book; the facts are those by all parties."""
    begun = {build[:4]: True for build in book[3]}
    found = [
        (party, compiler, name, parts)
        for name, language, _, _, uses in book[0]
        for compiler in compilers_for(book, facts, language)
        for parts in parts_for(facts, uses)
        for party in names_of(book[1])
    ]
    return ascending([order for order in found if order not in begun])


def is_order(book, facts, order):
    """Tell whether four elements, whatever they are, are an order; the facts are those by all parties."""
    party, compiler, source, parts = order
    if not has_party(book, party) or not is_name(compiler) or not has_source(book, source) or not is_names(parts):
        return False
    sources = {row[0]: row for row in book[0]}
    if len(parts) != len(sources[source][4]) or not premises_of(order, sources, facts):
        return False
    return not any([build[:4] == order for build in book[3]])


def compilers_for(book, facts, language):
    """Return the files that are right for some source that compiles the language, as a list."""
    compiles = {source[0]: source[2] for source in book[0]}
    return list({file: True for file, source in facts if language in compiles[source]})


def parts_for(facts, uses):
    """Return all tuples of files of which each is right for the use at its place, as a list."""
    rows = [()]
    for use in uses:
        rows = [(*row, file) for row in rows for file, source in facts if source == use]
    return rows


def file_decided(book, facts, order):
    """Return the file that decides the order, None if it is not decided."""
    right = [source for source in names_of(book[0]) if (order[1], source) in facts]
    for _, compiler, source, parts, file in book[3]:
        if (source, parts) == order[2:] and any([(compiler, name) in facts for name in right]):
            return file
    return None


def is_open(book):
    """Tell whether the book is open to orders."""
    facts = facts_by_all(book)
    return is_fit(book, facts) and not clashes_with(book, names_of(book[1]), facts)


def is_fit(book, facts):
    """Tell whether all compilers are steady and no class uses itself; the facts are those by all parties."""
    if not all([steady or not compiles for _, _, compiles, steady, _ in book[0]]):
        return False
    classes = classes_by(book, facts)
    uses = {source[0]: source[4] for source in book[0]}
    # The first source of a class stands for the class.
    heads = {name: names[0] for names in classes for name in names}
    below = {
        names[0]: tuple([heads[use] for name in names for use in uses[name]])
        for names in classes
    }
    return not any([head in reached(below, head) for head in below])
