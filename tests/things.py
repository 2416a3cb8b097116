"""What several tests draw on: odd and changed things, layings by hand and by chance, and a laying cell by cell."""

import random

TOP = 99999999


def nest(depth, make):
    """Something so many deep, each level made of the one within."""
    thing = make([])
    for level in range(depth - 1):
        thing = make([thing])
    return thing


ODD_THINGS = [
    None, True, False, 0, 1, -1, 7, 10 ** 30, -10 ** 30, "", "set", "go", "stop", "nonsense", "\n", "\u00e9", "\ud800",
    (), (None,), ("stop",), ("set", 0, 1), ("set",), ((),), ([],), (0, 0), [0], [None], [[]], [()], [""],
    nest(10, list), nest(10, tuple), [("stop",), [("stop",)]],
]

FILLERS = [
    None, True, False, 0, 1, -1, 100, 1000, TOP, TOP + 1, 10 ** 30, "", "1", (), [], (0,), [0], (0, (100,)), nest(6, list),
]


# Rows, longs, a plan, and the cells, worked out by hand from [6] and [7].
LAYINGS = [
    ([], [], ([], []), []),
    # A pool and no row: over, pad, head, word; the over goes to the end.
    ([], [], ([(0, (100,))], []), [7001, 6, 7002, 7101, 0, 100]),
    ([], [], ([(0, (TOP, 123456))], []), [7001, 8, 7002, 7102, 9999, 9999, 12, 3456]),
    ([("stop",)], [], ([], []), [0]),
    (
        [("set", 3, 99), ("sum", 1, 2), ("less", 4, 0), ("tell", 3), ("stop",)], [], ([], []),
        [1399, 2012, 3040, 4003, 0],
    ),
    # Short jumps: back, ahead, to itself, to the end.
    (
        [("go", 2), ("nil", 1, 0), ("nil", 2, 2), ("go", 1), ("go", 5)], [], ([], []),
        [6502, 8299, 8500, 6498, 6501],
    ),
    # The same, some of them long: places 0, 2, 3, 5, 6 and the end at 8.
    (
        [("go", 2), ("nil", 1, 0), ("nil", 2, 2), ("go", 1), ("go", 5)], [0, 2, 4], ([], []),
        [7000, 3, 8298, 9002, 3, 6497, 7000, 8],
    ),
    # The pool behind its row: over 2 and 3, pad 4, head 5.
    ([("set", 2, 1000)], [], ([(1, (1000,))], [0]), [5200, 5006, 7001, 8, 7002, 7101, 0, 1000]),
    # The pool ahead of its row, at the first gap; the row reads its third word.
    (
        [("set", 2, 70000)], [], ([(0, (100, 200, 70000))], [0]),
        [7001, 10, 7002, 7103, 0, 100, 0, 200, 7, 0, 5202, 4994],
    ),
    # At the first gap an over stands, whatever the last row is; row 0 is gone to behind the pool.
    ([("go", 0)], [], ([(0, (100,))], []), [7001, 6, 7002, 7101, 0, 100, 6500]),
    ([("go", 0)], [0], ([(0, (100,))], []), [7001, 6, 7002, 7101, 0, 100, 7000, 6]),
    # Behind a go and behind a stop no over; with and without a pad.
    ([("go", 1)], [], ([(1, (100,))], []), [6504, 7101, 0, 100]),
    ([("go", 1)], [0], ([(1, (100,))], []), [7000, 6, 7002, 7101, 0, 100]),
    ([("stop",), ("tell", 0)], [], ([(1, (100,))], []), [0, 7101, 0, 100, 4000]),
    ([("tell", 0), ("stop",)], [], ([(2, (100,))], []), [4000, 0, 7002, 7101, 0, 100]),
    # Behind a row that falls an over; without and with a pad.
    ([("nil", 0, 1)], [], ([(1, (100,))], []), [8106, 7001, 6, 7101, 0, 100]),
    ([("nil", 0, 1)], [0], ([(1, (100,))], []), [9000, 8, 7001, 8, 7002, 7101, 0, 100]),
    # Two pools with like numbers, read from both sides: rows at 0, 8, 18 and 20.
    (
        [("set", 0, 1000), ("set", 1, 1000), ("set", 2, 1000), ("set", 3, 2000)], [],
        ([(1, (1000,)), (2, (2000, 1000))], [0, 0, 1, 1]),
        [
            5000, 5006, 7001, 8, 7002, 7101, 0, 1000, 5100, 4998,
            7001, 18, 7002, 7102, 0, 2000, 0, 1000, 5201, 4996, 5300, 4994,
        ],
    ),
    # A row may read another pool than the nearest one.
    (
        [("set", 0, 1000), ("set", 1, 1000)], [], ([(1, (1000,)), (2, (500, 1000))], [1, 0]),
        [5001, 5014, 7001, 8, 7002, 7101, 0, 1000, 5100, 4998, 7001, 18, 7002, 7102, 0, 500, 0, 1000],
    ),
    # A jump over a pool, and one back over it.
    (
        [("nil", 0, 2), ("go", 0), ("set", 0, 1000), ("go", 0)], [], ([(2, (1000,))], [0]),
        [8106, 6499, 7002, 7101, 0, 1000, 5000, 4998, 6492],
    ),
]


def changed(thing):
    """Each thing that comes of changing one part of it, at whatever depth."""
    if isinstance(thing, int) and not isinstance(thing, bool):
        yield from (thing - 1, thing + 1, True, False, bool(thing), str(thing), (thing,), [thing])
    if isinstance(thing, (list, tuple)):
        kind = type(thing)
        yield tuple(thing) if kind is list else list(thing)
        for at, part in enumerate(thing):
            ahead, behind = list(thing[:at]), list(thing[at + 1:])
            yield kind(ahead + behind)
            yield kind(ahead + [part, part] + behind)
            for other in changed(part):
                yield kind(ahead + [other] + behind)
            for filler in FILLERS:
                yield kind(ahead + [filler] + behind)
        for at in range(len(thing) + 1):
            for filler in FILLERS:
                yield kind(list(thing[:at]) + [filler] + list(thing[at:]))
        for at in range(len(thing) - 1):
            yield kind(list(thing[:at]) + [thing[at + 1], thing[at]] + list(thing[at + 2:]))


def lists_in(thing):
    """Each list in an answer, at whatever depth."""
    if isinstance(thing, list):
        yield thing
    if isinstance(thing, (list, tuple)):
        for part in thing:
            yield from lists_in(part)


def row_by_chance(chance, many, numbers, share):
    """A row, great with a chance of so much of ten."""
    r, s, t = chance.randrange(5), chance.randrange(5), chance.randrange(many + 1)
    if chance.randrange(10) < share:
        return ("set", r, chance.choice(numbers))
    return chance.choice([
        ("set", r, s), ("set", r, 99), ("sum", r, s), ("less", r, s), ("tell", r), ("go", t), ("nil", r, t), ("stop",),
    ])


def rows_by_chance(seed, many, unlike, share):
    """Rows and longs that are the same for the same seed."""
    chance = random.Random(seed)
    numbers = [100, TOP] + [chance.randrange(100, TOP + 1) for one in range(unlike)]
    rows = [row_by_chance(chance, many, numbers[-unlike:] if unlike else [7], share) for one in range(many)]
    longs = [at for at, row in enumerate(rows) if row[0] in ("go", "nil") and chance.randrange(3) == 0]
    return rows, longs


def is_great(row):
    return row[0] == "set" and row[2] > 99


def laid_in_words(rows, longs, pools):
    """The cells of rows and pools as a list of what each cell is, by the words of [7]."""
    cells = []
    for gap in range(len(rows) + 1):
        for number, (there, words) in enumerate(pools):
            if there == gap:
                if gap == 0 or rows[gap - 1][0] not in ("go", "stop"):
                    cells += [("over", number), ("over behind", number)]
                if len(cells) in range(0, 100000, 2):
                    cells += [("pad", number)]
                cells += [("head", number)]
                for at, word in enumerate(words):
                    cells += [("word", number, at), ("word behind", number, at)]
        if gap < len(rows):
            cells += [("row", gap)]
            if is_great(rows[gap]) or gap in longs:
                cells += [("row behind", gap)]
    return cells


def placed_in_words(rows, longs, pools):
    """What placed is to tell, looked up in the list of cells."""
    cells = laid_in_words(rows, longs, pools)
    places = [cells.index(("row", at)) for at in range(len(rows))]
    return (places, [cells.index(("word", number, 0)) for number in range(len(pools))], len(cells))


def cell_in_words(rows, longs, plan, cells, place):
    """The number of the cell at a place, by the words of [6], where cells are what laid_in_words tells."""
    pools, uses = plan
    kind, number, *rest = cells[place]
    if kind in ("over", "pad"):
        return {"over": 7001, "pad": 7002}[kind]
    if kind == "over behind":
        return cells.index(("word behind", number, len(pools[number][1]) - 1)) + 1
    if kind == "head":
        return 7100 + len(pools[number][1])
    if kind in ("word", "word behind"):
        return divmod(pools[number][1][rest[0]], 10000)[kind == "word behind"]
    word, *parts = rows[number]
    if is_great(rows[number]):
        use = uses[[at for at, row in enumerate(rows) if is_great(row)].index(number)]
        if kind == "row":
            return 5000 + 100 * parts[0] + pools[use][1].index(parts[1])
        return 5000 + cells.index(("word", use, 0)) - (place - 1)
    if word in ("go", "nil"):
        goal = cells.index(("row", parts[-1])) if parts[-1] < len(rows) else len(cells)
        if kind == "row behind":
            return goal
        if number in longs:
            return 7000 if word == "go" else 9000 + parts[0]
        return (6500 if word == "go" else 8100 + 200 * parts[0]) + goal - place
    heads = {"stop": (0,), "set": (1000, 100, 1), "sum": (2000, 10, 1), "less": (3000, 10, 1), "tell": (4000, 1)}[word]
    return heads[0] + sum(times * part for times, part in zip(heads[1:], parts))


def cells_in_words(rows, longs, plan):
    """What laid_cells is to tell, each cell by itself."""
    cells = laid_in_words(rows, longs, plan[0])
    return [cell_in_words(rows, longs, plan, cells, place) for place in range(len(cells))]


def too_short_in_words(rows, longs, pools, hop):
    """What too_short is to tell, by places looked up in the list of cells."""
    places, begins, end = placed_in_words(rows, longs, pools)
    told = []
    for at, row in enumerate(rows):
        if row[0] in ("go", "nil") and at not in longs:
            step = ([*places, end][row[-1]]) - places[at]
            if step not in range(-hop, hop + 1) or (row[0] == "nil" and step not in range(-99, 100)):
                told.append(at)
    return told


def laying_by_chance(seed, many, unlike, share):
    """Rows, longs and a plan with pools at any gaps, some unread, some with words that none reads."""
    rows, longs = rows_by_chance(seed, many, unlike, share)
    chance = random.Random(seed)
    greats = [row for row in rows if is_great(row)]
    gaps = sorted(chance.sample(range(many + 1), chance.randrange(bool(greats), min(many + 1, 6) + 1)))
    uses = [chance.randrange(len(gaps)) for row in greats]
    pools = []
    for number, gap in enumerate(gaps):
        words = {row[2] for row, use in zip(greats, uses) if use == number}
        words |= {chance.randrange(100, TOP + 1) for one in range(chance.randrange(3) or not words)}
        pools.append((gap, tuple(chance.sample(sorted(words), len(words)))))
    while too_short_in_words(rows, longs, pools, 499):
        longs = sorted(longs + too_short_in_words(rows, longs, pools, 499))
    return rows, longs, (pools, uses)
