"""Points of the plane: turns, hulls, and directions along which a set is thin."""
from latticepoints.vectors import dot, less, primitive


def turn(one, other):
    """Return the determinant of two pairs, above 0 if the way from one to other is to the left."""
    return one[0] * other[1] - one[1] * other[0]


def chain_along(points):
    """Return those of the ascending points that make the right side of their hull, from the first to the last."""
    chain = []
    for point in points:
        while len(chain) > 1 and turn(less(chain[-1], chain[-2]), less(point, chain[-1])) <= 0:
            chain.pop()
        chain.append(point)
    return chain


def ring_around(points):
    """Return the corners of the hull of ascending, different points, to the left around it, from the first one on."""
    if len(points) < 2:
        return points
    return chain_along(points)[:-1] + chain_along(points[::-1])[:-1]


def outward(here, onward):
    """Return the facet's tuple a, without a common divisor, for an edge of a ring."""
    x, y = less(onward, here)
    return primitive((y, -x))


def width_between(points, a):
    """Return the greatest product of a pair with a point, less the least one."""
    products = [dot(a, point) for point in points]
    return max(products, default=0) - min(products, default=0)


def moved_along(one, other, times):
    """Return the pair other and so many times the pair one."""
    return (other[0] + times * one[0], other[1] + times * one[1])


def thinned(points, one, other):
    """Return the pair other and some times one, any integer, along which the points are least wide."""
    times, step = 0, 1
    while step > 0:
        # The width is convex in the number of times: where neither way is better by one step, nothing is.
        places = [times, times - step, times + step]
        best = min(places, key=lambda k: width_between(points, moved_along(one, other, k)))
        if best == times:
            step //= 2
        else:
            times, step = best, step * 2
    return moved_along(one, other, times)


def thin_frame(points):
    """Return two pairs with the determinant 1, the first one with the least width of the points along it."""
    one, other = (1, 0), (0, 1)
    while width_between(points, one) > 0:
        other = thinned(points, one, other)
        if width_between(points, other) >= width_between(points, one):
            break
        one, other = other, (-one[0], -one[1])
    return one, other
