"""Rows of the small machine: what they are, and how lists of them are joined."""

REGISTERS = 5
NUMBERS = 100000000
GREATEST_SMALL = 99

# What follows a row's word, a sign for each part: r a register, n a number, t a row's number or the end.
FORMS = {"set": "rn", "sum": "rr", "less": "rr", "tell": "r", "go": "t", "nil": "rt", "stop": ""}


def is_number_below(thing, limit):
    """Whether it is a whole number from 0 on and below the limit."""
    # Python takes True and False for 1 and 0; here they are no numbers.
    if isinstance(thing, bool) or not isinstance(thing, int):
        return False
    return 0 <= thing < limit


def is_row(thing, many):
    """Whether it is a row among so many rows."""
    if not isinstance(thing, tuple) or len(thing) == 0:
        return False
    word = thing[0]
    # A list can't be looked for among a dict's keys, so the word is known to be a text first.
    if not isinstance(word, str) or word not in FORMS:
        return False
    form = FORMS[word]
    if len(thing) != 1 + len(form):
        return False
    limits = {"r": REGISTERS, "n": NUMBERS, "t": many + 1}
    return all([is_number_below(part, limits[sign]) for sign, part in zip(form, thing[1:])])


def is_rows(thing):
    """Whether it is a list of rows; it may be asked of anything."""
    if not isinstance(thing, list):
        return False
    return all([is_row(row, len(thing)) for row in thing])


def is_great(row):
    """Whether its number is too great to stand in the row itself."""
    return row[0] == "set" and row[2] > GREATEST_SMALL


def is_jump(row):
    """Whether it may go to another row than the following one."""
    return row[0] == "go" or row[0] == "nil"


def greats_of(rows):
    """The rising list of the numbers of great rows."""
    return [at for at, row in enumerate(rows) if is_great(row)]


def jumps_of(rows):
    """The rising list of the numbers of jumps."""
    return [at for at, row in enumerate(rows) if is_jump(row)]


def falls(row):
    """Whether the following row may be done behind it."""
    return row[0] != "go" and row[0] != "stop"


def moved(row, many):
    """The row, with its goal so many rows farther on if it is a jump."""
    if not is_jump(row):
        return row
    return row[:-1] + (row[-1] + many,)


def joined(one, other):
    """The rows of one, and behind them those of other with their goals as much farther on."""
    return list(one) + [moved(row, len(one)) for row in other]
