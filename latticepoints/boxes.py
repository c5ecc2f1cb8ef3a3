"""Points with integer coordinates in a box that fulfil pairs (a, b): a * x is at most b."""
from latticepoints.errors import TooMany

MOST_POINTS = 20000


def bounds_of(points, n):
    """Return the least and the greatest numbers of the multiple n of points, one of each for each side of their box."""
    low = [n * min(column) for column in zip(*points)]
    high = [n * max(column) for column in zip(*points)]
    return low, high


def check_box(low, high):
    """Raise TooMany if the box from low to high has more points than the limit."""
    many = 1
    for first, last in zip(low, high):
        many *= last - first + 1
    if many > MOST_POINTS:
        raise TooMany(MOST_POINTS)


def starts_of(low, high):
    """Return the ascending list of the points of a box without their last numbers."""
    starts = [()]
    for first, last in list(zip(low, high))[:-1]:
        starts = [start + (number,) for start in starts for number in range(first, last + 1)]
    return starts


def span_of(rooms, steps, low, high):
    """Return the least and the greatest number from low to high whose products with the steps fit into the rooms."""
    for room, step in zip(rooms, steps):
        if step > 0:
            high = min(high, room // step)
        elif step < 0:
            low = max(low, -(room // -step))
        elif room < 0:
            return (0, -1)
    return (low, high)


def spans_behind(start, rooms, columns, low, high):
    """Return the list of the spans of a box behind a start, which leaves these rooms for the other columns."""
    place = len(start)
    if place + 1 == len(low):
        first, last = span_of(rooms, columns[place], low[place], high[place])
        return [(start, first, last)] if first <= last else []
    found = []
    for number in range(low[place], high[place] + 1):
        rest = [room - step * number for room, step in zip(rooms, columns[place])]
        found.extend(spans_behind(start + (number,), rest, columns, low, high))
    return found


def spans_within(pairs, low, high):
    """Return the points of a box that fulfil all pairs, line by line, as the ascending list of spans.

    Each span (start, first, last) stands for the points start + (k,), k from first to last.
    """
    rows = [a for a, _ in pairs]
    rooms = [b for _, b in pairs]
    return spans_behind((), rooms, list(zip(*rows)), low, high)


def points_within(pairs, low, high):
    """Return the ascending tuple of the points of the box from low to high that fulfil all pairs."""
    found = []
    for start, first, last in spans_within(pairs, low, high):
        found.extend([start + (number,) for number in range(first, last + 1)])
    return tuple(found)


def longest_spans(pairs, low, high):
    """Return (places, spans) for the points of a box that fulfil all pairs, their numbers in the order of places."""
    # The longest side comes last, as the points along it are not visited one by one.
    places = sorted(range(len(low)), key=lambda k: high[k] - low[k])
    turned = [(tuple(a[k] for k in places), b) for a, b in pairs]
    return places, spans_within(turned, [low[k] for k in places], [high[k] for k in places])


def count_within(pairs, low, high):
    """Return the number of points of the box from low to high that fulfil all pairs."""
    _, spans = longest_spans(pairs, low, high)
    return sum(last - first + 1 for _, first, last in spans)
