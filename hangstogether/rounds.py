"""Rows and cloths that go round: behind the last part the first one comes again."""


def moved(row, step):
    """Return a row that goes round in which each part stands so many places further."""
    cut = -step % len(row)
    return row[cut:] + row[:cut]


def period_of(row):
    """Return the least number of parts after which a row that goes round begins anew."""
    for size in range(1, len(row)):
        if moved(row, size) == row:
            return size
    return len(row)


def least_repeat_of(cloth):
    """Return the first picks and ends of an endless cloth of which it is made by straight repeats."""
    rows = cloth[:period_of(cloth)]
    ends = period_of(tuple(zip(*rows)))
    return tuple([row[:ends] for row in rows])


def moved_cloth(cloth, picks, ends):
    """Return a cloth that goes round in which each crossing stands so many picks and ends further."""
    return moved(tuple([moved(row, ends) for row in cloth]), picks)
