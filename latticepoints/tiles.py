"""The tile of independent vectors, a box with slanted sides, and which sides of a part of a cone are open."""
from latticepoints.boxes import starts_of
from latticepoints.lattices import lead_of, reduced
from latticepoints.vectors import across, dot, opposite


def inner_rows(vectors):
    """Return the rows, one for each vector, whose product with it is the absolute determinant, with the others 0."""
    rows = []
    for k, vector in enumerate(vectors):
        row = across(vectors[:k] + vectors[k + 1:], len(vector))
        rows.append(row if dot(row, vector) > 0 else opposite(row))
    return rows


def shares_in_tile(vectors, places):
    """Return lists of shares, one list for each point of the tile, as told at tile."""
    rows = inner_rows(vectors)
    whole = dot(rows[0], vectors[0])
    lows = [1 if k in places else 0 for k in range(len(rows))]
    basis, _ = reduced(vectors)
    # Each point has just one in the box of the leads from which it differs by sums of the vectors.
    found = []
    for start in starts_of([0] * len(rows), [row[k] - 1 for k, row in enumerate(basis)]):
        # zip leaves out the last number of a row, for which the start has no partner.
        lines = [(dot(row, start) - low, row[-1], low) for row, low in zip(rows, lows)]
        for number in range(basis[-1][-1]):
            found.append([(first + number * step) % whole + low for first, step, low in lines])
    return found


def point_of_shares(shares, vectors, whole):
    """Return the sum of the vectors times their shares over the whole."""
    return tuple(dot(shares, column) // whole for column in zip(*vectors))


def tile(vectors, places):
    """Return the list of the points with integer coordinates that are sums of a[k] times vector k.

    Each a[k] is at least 0 and less than 1, for k in places above 0 and at most 1. The share of vector k is
    a[k] times the absolute determinant, an integer.
    """
    whole = dot(inner_rows(vectors)[0], vectors[0])
    return [point_of_shares(shares, vectors, whole) for shares in shares_in_tile(vectors, places)]


def open_places(vectors, lights):
    """Return the ascending tuple of the places k at which the cone of the vectors is open.

    Think of a point far out, but inside of it, in the direction of the first light, from there a little towards
    the second one, much less towards the third one, and so on. The side without vector k is open if this point
    lies behind it. If cones make up a cone and share no inner points, then each point is in just one of them: in
    that one into which a small step towards the point in the light leads.
    """
    places = []
    for k, row in enumerate(inner_rows(vectors)):
        sides = [dot(row, light) for light in lights]
        if sides[lead_of(sides)] < 0:
            places.append(k)
    return tuple(places)
