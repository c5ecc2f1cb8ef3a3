"""Points of multiples that are no sums of points of the shape itself (point 12)."""
from latticepoints.hulls import corners_of_hull, facets_of
from latticepoints.shapes import check_number, check_shape, points_in
from latticepoints.vectors import less

MOST_MULTIPLE = 6


def unparted(shape, n):
    """Return the ascending tuple of the points of the multiple n that do not part."""
    check_shape(shape)
    check_number(n, 1, MOST_MULTIPLE)
    goals = points_in(shape, n)
    if n == 1:
        return ()
    steps = corners_first(shape)
    parting = {step: True for step in steps}
    for multiple in range(2, n):
        parting = {p: True for p in points_in(shape, multiple) if is_sum(p, parting, steps)}
    return tuple(p for p in goals if not is_sum(p, parting, steps))


def corners_first(shape):
    """Return the points of the shape, its corners ahead: most sums are found by them."""
    ends = corners_of_hull(shape, facets_of(shape))
    return list(ends) + [p for p in points_in(shape, 1) if p not in ends]


def is_sum(p, parting, steps):
    """Tell whether a point less one of the steps is in the dict of points that part."""
    return any(less(p, step) in parting for step in steps)


def is_normal(shape):
    """Tell whether all points of all multiples of a shape part."""
    check_shape(shape)
    # If all points of the multiples up to d - 1 part, then those of the greater ones do, and the first always parts.
    return all(unparted(shape, n) == () for n in range(2, len(shape[0])))
