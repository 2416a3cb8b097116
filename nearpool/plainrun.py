"""The plain run of rows: what the machine tells, without any cells."""

from nearpool.rows import NUMBERS, REGISTERS


def carry_out(row, held, told):
    """Does what a row asks of the registers and of what is told; where it goes is another matter."""
    word = row[0]
    if word == "set":
        held[row[1]] = row[2]
    elif word == "sum":
        held[row[1]] = (held[row[1]] + held[row[2]]) % NUMBERS
    elif word == "less":
        held[row[1]] = (held[row[1]] - held[row[2]]) % NUMBERS
    elif word == "tell":
        told.append(held[row[1]])


def jumps_now(row, held):
    """Whether the row is a jump that goes to its goal, by what the registers hold."""
    return row[0] == "go" or (row[0] == "nil" and held[row[1]] == 0)


def told_plainly(rows, most):
    """The tuple (told, end, went) of a run of at most so many rows."""
    held = [0] * REGISTERS
    told = []
    went = []
    at = 0
    while at < len(rows) and len(went) < most:
        row = rows[at]
        went.append(at)
        if row[0] == "stop":
            return (told, "stopped", went)
        carry_out(row, held, told)
        at = row[-1] if jumps_now(row, held) else at + 1
    # The end counts ahead of most: a run whose end is next isn't going, though so many rows are done.
    return (told, "ended" if at == len(rows) else "going", went)
