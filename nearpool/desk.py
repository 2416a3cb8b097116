"""The desk: a sheet of reach, hop, most and rows, and what comes of it."""

from nearpool.errors import BadText
from nearpool.growing import settled
from nearpool.laying import laid_cells
from nearpool.machine import run
from nearpool.texts import is_figures, rows_in

# The word of each of the first rows, and the bounds of the numbers behind it.
HEADS = (("reach", (0, 4999), (6, 4999)), ("hop", (0, 499)), ("most", (0, 2000)))


def numbers_in(line, head):
    """The numbers of one of the first rows, or None where it isn't so written."""
    word, *parts = line.split(" ")
    if word != head[0] or len(parts) != len(head) - 1:
        return None
    for part, (low, high) in zip(parts, head[1:]):
        if not is_figures(part) or not low <= int(part) <= high:
            return None
    return [int(part) for part in parts]


def heads_in(lines):
    """The numbers of the first three rows; refused at the first that isn't there or isn't so written."""
    numbers = []
    for at, head in enumerate(HEADS):
        found = numbers_in(lines[at], head) if at < len(lines) else None
        if found is None:
            raise BadText(at)
        numbers += found
    return numbers


def line_with(word, numbers):
    """A line of a word and numbers, with a blank ahead of each."""
    return " ".join([word] + [str(number) for number in numbers])


def answers(text):
    """The text of five rows that a sheet is answered by."""
    lines = text.split("\n")
    back, ahead, hop, most = heads_in(lines)
    rows = rows_in(lines[len(HEADS):], len(HEADS))
    longs, (pools, uses) = settled(rows, (back, ahead), hop)
    cells = laid_cells(rows, longs, (pools, uses))
    told, end, trace = run(cells, most)
    gaps = [gap for gap, numbers in pools]
    parts = (("cells", [len(cells)]), ("pools", gaps), ("longs", longs), ("told", told))
    return "\n".join([line_with(word, numbers) for word, numbers in parts] + [end])
