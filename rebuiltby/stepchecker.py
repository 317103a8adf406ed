"""The checker of steps."""

from rebuiltby.errors import InvalidPaper
from rebuiltby.helper import ascending, need_facts
from rebuiltby.kinds import is_number

# How many numbers follow the word of a step; those of ("built", k, i, js) stand before js.
NUMBERS = {"vouched": 1, "built": 2, "moved": 3, "supposed": 1, "parted": 4, "unlike": 2}
# How many of them, at first, are indexes of builds.
BUILDS = {"vouched": 1, "built": 1, "moved": 0, "supposed": 0, "parted": 2, "unlike": 0}


def lets_steps(book, thing, *, supposed=()):
    """Return what steps show, a fact or () for a clash, and the set of their parties."""
    need_facts("supposed", book, supposed)
    if not isinstance(thing, tuple) or not thing or not all([is_step(step) for step in thing]):
        raise InvalidPaper("shape", -1)
    shown = []
    for n, step in enumerate(thing):
        check_indexes(book, n, step, supposed)
        fact = shown_by(book, step, shown, supposed)
        if fact is None:
            raise InvalidPaper("rule", n)
        if fact == () and n < len(thing) - 1:
            raise InvalidPaper("last", n)
        shown.append(fact)
    return shown[-1], ascending([book[3][k][0] for step in thing for k in builds_in(step)])


def is_step(thing):
    """Tell whether the thing is of one of the six forms of steps."""
    if not isinstance(thing, tuple) or not thing or not isinstance(thing[0], str) or thing[0] not in NUMBERS:
        return False
    numbers = thing[1:]
    if thing[0] == "built":
        if not isinstance(thing[-1], tuple) or not all([is_number(at) for at in thing[-1]]):
            return False
        numbers = thing[1:-1]
    return len(numbers) == NUMBERS[thing[0]] and all([is_number(at) for at in numbers])


def builds_in(step):
    """Return the indexes of the builds that the step names."""
    return step[1:1 + BUILDS[step[0]]]


def steps_in(step):
    """Return the indexes of the steps that the step names."""
    if step[0] == "supposed":
        return ()
    if step[0] == "built":
        return step[2:3] + step[3]
    return step[1 + BUILDS[step[0]]:]


def check_indexes(book, n, step, supposed):
    """Check that what the step names is there: earlier steps, supposed facts, builds."""
    if not all([at < n for at in steps_in(step)]):
        raise InvalidPaper("index", n)
    if step[0] == "supposed" and step[1] >= len(supposed):
        raise InvalidPaper("index", n)
    if not all([k < len(book[3]) for k in builds_in(step)]):
        raise InvalidPaper("build", n)


def shown_by(book, step, shown, supposed):
    """Return the fact of a step, () for a clash, None if the step is not as it must be."""
    builds = [book[3][k] for k in builds_in(step)]
    facts = [shown[at] for at in steps_in(step)]
    if step[0] == "supposed":
        return supposed[step[1]]
    if step[0] == "vouched":
        return (builds[0][4], builds[0][2]) if builds[0][1] is None else None
    if step[0] == "built":
        return (builds[0][4], builds[0][2]) if is_built(book, builds[0], facts) else None
    if step[0] == "moved":
        is_chain = facts[0][1] == facts[1][1] and facts[1][0] == facts[2][0]
        return (facts[0][0], facts[2][1]) if is_chain else None
    if step[0] == "parted":
        return () if is_parted(book, builds, facts) else None
    return () if is_unlike(book, facts) else None


def is_built(book, build, facts):
    """Tell whether the facts, the compiler's first, say what the build wants."""
    sources = {source[0]: source for source in book[0]}
    compiler, source = facts[0]
    # A vouching is refused here, too: None, its compiler, is no file of a fact.
    if compiler != build[1] or sources[build[2]][1] not in sources[source][2]:
        return False
    return facts[1:] == list(zip(build[3], sources[build[2]][4]))


def is_parted(book, builds, facts):
    """Tell whether the two facts say that the two builds should have given one file."""
    one, other = builds
    if facts[0][0] != one[1] or facts[1][0] != other[1] or facts[0][1] != facts[1][1]:
        return False
    steady = [source[0] for source in book[0] if source[3]]
    return facts[0][1] in steady and one[2:4] == other[2:4] and one[4] != other[4]


def is_unlike(book, facts):
    """Tell whether the two facts say that a file is right for two sources told unlike."""
    pair = ascending([facts[0][1], facts[1][1]])
    return facts[0][0] == facts[1][0] and pair in book[2]
