"""Points with integer coordinates in a box that fulfil pairs (a, b): a * x is at most b."""
from latticepoints.errors import TooMany
from latticepoints.vectors import dot

MOST_POINTS = 20000


def check_box(low, high):
    """Raise TooMany if the box from low to high has more points than the limit."""
    many = 1
    for first, last in zip(low, high):
        many *= last - first + 1
    if many > MOST_POINTS:
        raise TooMany(MOST_POINTS)


def starts_of(low, high):
    """Return the ascending list of the points of a box without their last numbers."""
    starts = [()]
    for first, last in list(zip(low, high))[:-1]:
        starts = [start + (number,) for start in starts for number in range(first, last + 1)]
    return starts


def span_behind(pairs, start, first, last):
    """Return the least and the greatest last number behind a start that fulfils all pairs."""
    low = first
    high = last
    for a, b in pairs:
        # zip leaves out the last number of a, for which the start has no partner.
        room = b - dot(a, start)
        step = a[-1]
        if step > 0:
            high = min(high, room // step)
        elif step < 0:
            low = max(low, -(room // -step))
        elif room < 0:
            return (0, -1)
    return (low, high)


def points_within(pairs, low, high):
    """Return the ascending tuple of the points of the box from low to high that fulfil all pairs."""
    found = []
    for start in starts_of(low, high):
        first, last = span_behind(pairs, start, low[-1], high[-1])
        found.extend([start + (number,) for number in range(first, last + 1)])
    return tuple(found)


def longest_spans(pairs, low, high):
    """Return (places, spans): the points of a box that fulfil all pairs, line by line.

    Each span (start, first, last) stands for the points start + (k,), k from first to last, with their numbers in
    the order of places: the longest side comes last, as its points are not visited one by one.
    """
    places = sorted(range(len(low)), key=lambda k: high[k] - low[k])
    turned = [(tuple(a[k] for k in places), b) for a, b in pairs]
    bottom = [low[k] for k in places]
    top = [high[k] for k in places]
    spans = []
    for start in starts_of(bottom, top):
        first, last = span_behind(turned, start, bottom[-1], top[-1])
        if first <= last:
            spans.append((start, first, last))
    return places, spans


def count_within(pairs, low, high):
    """Return the number of points of the box from low to high that fulfil all pairs."""
    _, spans = longest_spans(pairs, low, high)
    return sum(last - first + 1 for _, first, last in spans)
