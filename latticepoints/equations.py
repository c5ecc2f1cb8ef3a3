"""Lattices of rows, and equations in integers (points 4 and 5)."""
from latticepoints.checks import is_long, is_row, is_whole_row
from latticepoints.errors import BadGoal, BadRows, BadVector
from latticepoints.lattices import bezout, lead_of, reduced
from latticepoints.ratios import ZERO, are_ratios, minus, over, ratio, weighed
from latticepoints.vectors import combined, determinant, divisor_of, opposite

MOST_SIZE = 6
MOST_VECTOR = 4
BOUND = 1000


def check_rows(rows):
    """Raise BadRows if a value is no rows."""
    if not is_long(rows, 1, MOST_SIZE) or not all(is_row(row, 1, MOST_SIZE, BOUND) for row in rows):
        raise BadRows("not a tuple of rows of integers")
    if any(len(row) != len(rows[0]) for row in rows):
        raise BadRows("not all rows have the same length")


def check_goal(rows, goal):
    """Raise BadGoal if a value is no goal for these rows."""
    if not is_row(goal, len(rows[0]), len(rows[0]), BOUND):
        raise BadGoal("not a tuple of as many integers as a row has")


def hermite(rows):
    """Return the one tuple of rows with leads that has the same lattice."""
    check_rows(rows)
    basis, _ = reduced(rows)
    return basis


def completed(vector):
    """Return a square tuple of rows with the determinant 1, the first one being the vector."""
    if not is_row(vector, 1, MOST_VECTOR, BOUND) or divisor_of(vector) != 1:
        raise BadVector("not a tuple of 1 to 4 integers without a common divisor")
    if vector == (-1,):
        raise BadVector("its only determinant is -1")
    rows = begun_with(vector)
    if determinant(rows) < 0:
        rows = rows[:-1] + [opposite(rows[-1])]
    return tuple(rows)


def begun_with(vector):
    """Return rows with the determinant 1 or -1, none with greater numbers than the vector, their first."""
    if len(vector) == 1:
        return [vector]
    last = vector[-1]
    by = divisor_of(vector[:-1])
    if by == 0:
        start = (1,) + vector[1:-1]
    else:
        start = tuple(number // by for number in vector[:-1])
    inner = begun_with(start)
    factor, turn = bezout(by, last)
    final = tuple(-turn * number for number in start) + (factor,)
    return [vector] + [row + (0,) for row in inner[1:]] + [final]


def solve(rows, goal):
    """Return ("solution", x) or ("mixture", y), whichever of both there is."""
    check_rows(rows)
    check_goal(rows, goal)
    basis, ways = reduced(rows)
    rest = goal
    total = (0,) * len(rows)
    for place, row in enumerate(basis):
        lead = lead_of(row)
        factor = rest[lead] // row[lead]
        if rest[lead] != factor * row[lead]:
            return ("mixture", mixture_for_row(basis, place))
        rest = tuple(x - factor * y for x, y in zip(rest, row))
        total = tuple(x + factor * y for x, y in zip(total, ways[place]))
    if lead_of(rest) is not None:
        return ("mixture", mixture_for_column(basis, rest))
    return ("solution", total)


def mixture_for_row(basis, place):
    """Return the mixture that is 1 for this row of the basis and 0 for the others."""
    goals = [(1, 1) if k == place else ZERO for k in range(len(basis))]
    return filled(basis, goals, [ZERO] * len(basis[0]))


def mixture_for_column(basis, rest):
    """Return a mixture that is 0 for all rows of the basis, and half of 1 for a rest that is 0 in their leads."""
    column = lead_of(rest)
    parts = [ZERO] * len(rest)
    parts[column] = ratio(1, 2 * rest[column])
    return filled(basis, [ZERO] * len(basis), parts)


def filled(basis, goals, parts):
    """Return the parts with those at the leads changed so that each row of the basis gives its goal."""
    mixture = list(parts)
    for row, goal in reversed(list(zip(basis, goals))):
        lead = lead_of(row)
        mixture[lead] = over(minus(goal, weighed(row, mixture)), row[lead])
    return tuple(mixture)


def shows(rows, goal, value):
    """Tell whether a value is a solution or a mixture for these rows and this goal."""
    check_rows(rows)
    check_goal(rows, goal)
    if not is_long(value, 2, 2):
        return False
    kind, numbers = value
    if kind == "solution":
        return is_solution(rows, goal, numbers)
    return kind == "mixture" and is_mixture(rows, goal, numbers)


def is_solution(rows, goal, value):
    """Tell whether a value is a tuple of factors of the rows whose sum is the goal."""
    return is_whole_row(value, len(rows)) and combined(value, rows) == goal


def is_mixture(rows, goal, value):
    """Tell whether a value is a tuple of ratios that gives integers for all rows, but not for the goal."""
    if not are_ratios(value) or len(value) != len(goal):
        return False
    sums = [weighed(row, value) for row in rows]
    return all(bottom == 1 for _, bottom in sums) and weighed(goal, value)[1] != 1
