"""Integer hulls of plane sets, papers that show bounds, and rounds (points 27 to 29)."""
from latticepoints.boxes import spans_within
from latticepoints.checks import is_long, is_row
from latticepoints.errors import BadGoal, BadPaper, Empty, NoPoint, NotPlane
from latticepoints.halves import check_bounded, check_pairs, scaled_corners
from latticepoints.papers import Paper, is_line, told_by
from latticepoints.plane import ring_around, thin_frame, turn
from latticepoints.proving import frame_of_line, prove_corner, prove_none, prove_on_line
from latticepoints.rounding import count_rounds
from latticepoints.vectors import dot, primitive

MOST_LINES = 300
MOST_GOAL = 50


def check_plane(halves):
    """Raise BadHalves, NotPlane or Unbounded if a value is no halves of the dimension 2."""
    check_pairs(halves)
    if len(halves[0][0]) != 2:
        raise NotPlane("the dimension is not 2")
    check_bounded(halves)


def corners_or_none(halves):
    """Return (scale, places) for the corners, places over scale; no places if no x fulfils the halves."""
    try:
        return scaled_corners(halves)
    except Empty:
        return 1, []


def hull_ring(halves, scale, places, frame):
    """Return the corners of the hull of all points, to the left around it; along the frame the set is thin."""
    if not places:
        return []
    one, other = frame
    turned = [((turn(a, other), turn(one, a)), b) for a, b in halves]
    low = [-(-min(dot(axis, place) for place in places) // scale) for axis in frame]
    high = [max(dot(axis, place) for place in places) // scale for axis in frame]
    ends = []
    for start, first, last in spans_within(turned, low, high):
        ends.append(start + (first,))
        if last > first:
            ends.append(start + (last,))
    return [(x * other[1] - y * one[1], y * one[0] - x * other[0]) for x, y in ring_around(ends)]


def integer_hull(halves):
    """Return the ascending tuple of the points that do not lie in the hull of the others."""
    check_plane(halves)
    scale, places = corners_or_none(halves)
    ring = hull_ring(halves, scale, places, thin_frame(places))
    if not ring:
        raise NoPoint("no point with integer coordinates fulfils all halves")
    return tuple(sorted(ring))


def cut_lines(halves, paper):
    """Return the tuple of the pairs (a, b) that the lines of a paper tell."""
    check_plane(halves)
    if not is_long(paper, 0, MOST_LINES):
        raise BadPaper(None)
    known = list(halves)
    for index, line in enumerate(paper):
        told = told_by(known, line) if is_line(line, len(known)) else None
        if told is None:
            raise BadPaper(index)
        known.append(told)
    return tuple(known[len(halves):])


def best(halves, goal):
    """Return the greatest goal * p of all points, such a point, and a paper that shows it; or that there is none."""
    check_plane(halves)
    if not is_row(goal, 2, 2, MOST_GOAL):
        raise BadGoal("not a pair of integers from -50 to 50")
    paper = Paper(halves)
    scale, places = corners_or_none(halves)
    frame = thin_frame(places)
    ring = hull_ring(halves, scale, places, frame)
    if not ring:
        prove_none(paper, halves, frame, places, scale)
        return ("none", (0, 0), (0, 0), tuple(paper.lines))
    p = max(ring, key=lambda corner: dot(goal, corner))
    if len(ring) > 2:
        prove_corner(paper, halves, ring, p, goal)
    else:
        prove_on_line(paper, halves, frame_of_line(ring, frame), p, goal)
    return ("best", dot(goal, p), p, tuple(paper.lines))


def rounds(halves):
    """Return the least number of rounds after which the set is the hull of all points."""
    check_plane(halves)
    scale, places = corners_or_none(halves)
    return count_rounds([primitive(place + (scale,)) for place in ring_around(places)])
