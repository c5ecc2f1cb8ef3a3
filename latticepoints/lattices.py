"""The lattice of rows of integers, and its one form with leads (point 4)."""


def lead_of(row):
    """Return the place of the first number that is not 0, None if there is none."""
    for place, number in enumerate(row):
        if number != 0:
            return place
    return None


def reduced(rows):
    """Return (basis, ways): the form with leads of the lattice, and the factors of the rows that make it."""
    width = len(rows[0])
    work = [tuple(row) + unit(len(rows), k) for k, row in enumerate(rows)]
    done = []
    for column in range(width):
        pivot, work = swept(work, column)
        if pivot is not None:
            done = [lowered(row, pivot, column) for row in done] + [pivot]
    basis = tuple(row[:width] for row in done)
    ways = tuple(row[width:] for row in done)
    return basis, ways


def unit(size, place):
    """Return the tuple of zeros with a 1 at one place."""
    return tuple(1 if k == place else 0 for k in range(size))


def lowered(row, pivot, column):
    """Return the row less the multiple of the pivot that leaves a rest from 0 on in the column."""
    factor = row[column] // pivot[column]
    return tuple(x - factor * y for x, y in zip(row, pivot))


def swept(work, column):
    """Return the one row with a lead in the column, None if there is none, and the rows of 0 there."""
    zeros = [row for row in work if row[column] == 0]
    others = [row for row in work if row[column] != 0]
    while len(others) > 1:
        others = sorted(others, key=lambda row: abs(row[column]))
        pivot = others[0]
        rests = [lowered(row, pivot, column) for row in others[1:]]
        zeros = zeros + [row for row in rests if row[column] == 0]
        others = [pivot] + [row for row in rests if row[column] != 0]
    if not others:
        return None, zeros
    pivot = others[0]
    if pivot[column] < 0:
        pivot = tuple(-number for number in pivot)
    return pivot, zeros


def bezout(one, other):
    """Return (x, y) with one * x + other * y being 1, y from 0 to one - 1 if one is above 0."""
    basis, ways = reduced(((one,), (other,)))
    x, y = ways[0]
    if one != 0:
        # The other solutions differ by multiples of (other, -one).
        turn = y // one
        x, y = x + turn * other, y - turn * one
    return x, y
