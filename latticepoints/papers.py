"""Papers: lines that tell, from halves and lines ahead of them, what all points of a plane set fulfil (point 27)."""
from latticepoints.checks import is_between, is_long
from latticepoints.ratios import is_ratio, weighed

MOST_PAIRS = 10


def is_part(value, many):
    """Tell whether a value is a pair of an index below many and a ratio above 0."""
    if not is_long(value, 2, 2) or not is_between(value[0], 0, many - 1):
        return False
    return is_ratio(value[1]) and value[1][0] > 0


def is_line(value, many):
    """Tell whether a value is a line of at most 10 pairs (index, factor), the indexes below many."""
    if not is_long(value, 0, MOST_PAIRS) or not all(is_part(part, many) for part in value):
        return False
    return all(one[0] < other[0] for one, other in zip(value, value[1:]))


def told_by(known, line):
    """Return the pair (a, b) that a line tells of the known pairs, None if it is not right."""
    factors = [factor for _, factor in line]
    pairs = [known[index] for index, _ in line]
    x = weighed([a[0] for a, _ in pairs], factors)
    y = weighed([a[1] for a, _ in pairs], factors)
    if x[1] != 1 or y[1] != 1:
        return None
    top, bottom = weighed([b for _, b in pairs], factors)
    return ((x[0], y[0]), top // bottom)


class Paper:
    """A paper that grows; known are the halves, and behind them what its lines tell."""

    def __init__(self, halves):
        self.known = list(halves)
        self.lines = []

    def tell(self, parts):
        """Put a line of these pairs (index, factor), without those of the factor 0, at the end; return its index."""
        line = tuple(sorted([(index, factor) for index, factor in parts if factor[0] != 0]))
        self.lines.append(line)
        self.known.append(told_by(self.known, line))
        return len(self.known) - 1
