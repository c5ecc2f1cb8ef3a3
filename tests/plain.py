"""Second, slow ways to find what the program finds, for the tests to hold against it."""
import itertools
import random
from fractions import Fraction
from math import ceil, floor, gcd


def as_ratio(value):
    value = Fraction(value)
    return (value.numerator, value.denominator)


def as_fraction(ratio):
    return Fraction(ratio[0], ratio[1])


def poly_value(poly, n):
    return sum(as_fraction(number) * n ** power for power, number in enumerate(poly))


def quasi_value_of(quasi, n):
    return poly_value(quasi[n % len(quasi)], n)


def lagrange(nodes, values):
    """The numbers of the polynomial through the values, as fractions, by Lagrange's formula."""
    total = [Fraction(0)] * len(nodes)
    for k, value in enumerate(values):
        part = [Fraction(value)]
        for j, node in enumerate(nodes):
            if j == k:
                continue
            longer = [Fraction(0)] * (len(part) + 1)
            for power, number in enumerate(part):
                longer[power] -= number * node / (nodes[k] - node)
                longer[power + 1] += number / (nodes[k] - node)
            part = longer
        total = [x + y for x, y in zip(total, part)]
    while total and total[-1] == 0:
        total.pop()
    return tuple(as_ratio(number) for number in total)


def solve_square(rows, goals):
    """The one x with rows times x equal to the goals, by elimination; None if there is not just one."""
    size = len(rows[0])
    work = [[Fraction(x) for x in row] + [Fraction(goal)] for row, goal in zip(rows, goals)]
    done = 0
    for column in range(size):
        pick = next((k for k in range(done, len(work)) if work[k][column]), None)
        if pick is None:
            return None
        work[done], work[pick] = work[pick], work[done]
        work[done] = [x / work[done][column] for x in work[done]]
        for k, row in enumerate(work):
            if k != done and row[column]:
                work[k] = [x - row[column] * y for x, y in zip(row, work[done])]
        done += 1
    if any(row[-1] for row in work[done:]):
        return ()
    return tuple(row[-1] for row in work[:size])


def det(rows):
    """The determinant as a sum over all orders."""
    total = 0
    for order in itertools.permutations(range(len(rows))):
        part = 1
        for k, place in enumerate(order):
            part *= rows[k][place]
            for j in range(k):
                if order[j] > place:
                    part = -part
        total += part
    return total


def weights(simplex, p):
    """The numbers that make p of affinely independent points and add up to 1; None or () if there are none."""
    rows = [[point[k] for point in simplex] for k in range(len(p))] + [[1] * len(simplex)]
    return solve_square(rows, list(p) + [1])


def in_hull(points, p):
    """Whether p is in the hull of points, by all simplices of at most d + 1 of them."""
    for size in range(1, len(p) + 2):
        for simplex in itertools.combinations(points, size):
            found = weights(simplex, p)
            if found and min(found) >= 0:
                return True
    return False


class Hull:
    """The hull of points that span, as the union of all simplices of d + 1 of them."""

    def __init__(self, points):
        self.points = points
        self.simplices = []
        for simplex in itertools.combinations(points, len(points[0]) + 1):
            base = simplex[0]
            ways = [tuple(x - y for x, y in zip(point, base)) for point in simplex[1:]]
            volume = det(ways)
            if volume:
                units = [solve_square(list(zip(*ways)), unit) for unit in units_of(len(base))]
                self.simplices.append((base, [[column[k] * volume for column in units] for k in range(len(base))],
                                       volume))
        # The great ones hold most points, and are asked first.
        self.simplices.sort(key=lambda simplex: -abs(simplex[2]))

    def holds(self, p, scale=1):
        """Whether p over scale is in the hull."""
        for base, rows, volume in self.simplices:
            sign = 1 if volume > 0 else -1
            way = [x - scale * y for x, y in zip(p, base)]
            parts = [sign * sum(x * y for x, y in zip(row, way)) for row in rows]
            if min(parts) >= 0 and sum(parts) <= abs(volume) * scale:
                return True
        return False

    def place(self, p, scale=1):
        """1 inside, 0 on the border, -1 outside."""
        if not self.holds(p, scale):
            return -1
        # Inside, and only there, small ways along all axes, both ways, stay in the hull.
        fine = 10 ** 7
        for k in range(len(p)):
            for way in (-1, 1):
                moved = [fine * x for x in p]
                moved[k] += way
                if not self.holds(moved, scale * fine):
                    return 0
        return 1

    def box(self, n):
        columns = list(zip(*self.points))
        return itertools.product(*[range(n * min(column), n * max(column) + 1) for column in columns])

    def listed(self, n):
        return tuple(p for p in self.box(n) if self.holds(p, n))

    def inner(self, n):
        return tuple(p for p in self.box(n) if self.place(p, n) == 1)

    def volume(self):
        """The content, as the d-th difference of the counts of multiples 0 to d."""
        counts = [1] + [len(self.listed(n)) for n in range(1, len(self.points[0]) + 1)]
        while len(counts) > 1:
            counts = [y - x for x, y in zip(counts, counts[1:])]
        return counts[0]


def units_of(size):
    return [tuple(1 if j == k else 0 for j in range(size)) for k in range(size)]


def spans(points):
    return any(det([[x - y for x, y in zip(q, group[0])] for q in group[1:]])
               for group in itertools.combinations(points, len(points[0]) + 1))


def random_shapes(seed, size, bound, many, most_points=7):
    """Some shapes of a dimension, with numbers up to bound."""
    chance = random.Random(seed)
    shapes = []
    while len(shapes) < many:
        count = chance.randint(size + 1, most_points)
        points = []
        while len(points) < min(count, (2 * bound + 1) ** size):
            p = tuple(chance.randint(-bound, bound) for _ in range(size))
            if p not in points:
                points.append(p)
        if spans(points):
            shapes.append(tuple(points))
    return shapes


def corners_by_pairs(halves):
    """The corners of halves, tuples of fractions, ascending."""
    size = len(halves[0][0])
    found = set()
    for group in itertools.combinations(halves, size):
        x = solve_square([a for a, _ in group], [b for _, b in group])
        if x and all(sum(p * q for p, q in zip(a, x)) <= b for a, b in halves):
            found.add(x)
    return sorted(found)


def listed_halves(halves, n, room=0):
    """The points with integer coordinates and a * x at most n * b - room, by all points of a box."""
    corners = corners_by_pairs(halves)
    ranges = [range(floor(n * min(column)), ceil(n * max(column)) + 1) for column in zip(*corners)]
    return tuple(p for p in itertools.product(*ranges)
                 if all(sum(x * y for x, y in zip(a, p)) <= n * b - room for a, b in halves))


def random_halves(seed, size, bound, limit, many, most_pairs=6):
    """Some halves with an end in all directions and a corner."""
    chance = random.Random(seed)
    found = []
    while len(found) < many:
        pairs = []
        for unit in units_of(size):
            scale = chance.randint(1, bound)
            pairs.append((tuple(scale * x for x in unit), chance.randint(0, limit)))
            scale = chance.randint(1, bound)
            pairs.append((tuple(-scale * x for x in unit), chance.randint(0, limit)))
        for _ in range(chance.randint(0, most_pairs - 2)):
            a = tuple(chance.randint(-bound, bound) for _ in range(size))
            if any(a):
                pairs.append((a, chance.randint(-1, limit)))
        chance.shuffle(pairs)
        halves = tuple(pairs[:10])
        if len(pairs) <= 10 and corners_by_pairs(halves):
            found.append(halves)
    return found


def divisor(numbers):
    found = 0
    for number in numbers:
        found = gcd(found, number)
    return found


def moved(points, rows, shift):
    """The points taken by rows and a shift."""
    return tuple(tuple(sum(x * y for x, y in zip(row, p)) + s for row, s in zip(rows, shift)) for p in points)


class Frame:
    """Vectors that span, and the parts that they have in points: p is the sum of parts[k] / whole times vector k."""

    def __init__(self, vectors):
        self.vectors = vectors
        self.whole = abs(det(vectors))
        columns = [solve_square(list(zip(*vectors)), unit) for unit in units_of(len(vectors))]
        self.rows = [[int(column[k] * self.whole) for column in columns] for k in range(len(vectors))]

    def parts(self, p):
        return [sum(x * y for x, y in zip(row, p)) for row in self.rows]

    def holds(self, p, places):
        """Whether p is in the cone of the vectors that is open at the places; p may be any multiple of a point."""
        return all(part > 0 if k in places else part >= 0 for k, part in enumerate(self.parts(p)))

    def tile(self, places):
        """All points with parts from 0 to whole - 1, for the places from 1 to whole, by a box around them."""
        columns = list(zip(*self.vectors))
        ranges = [range(sum(min(x, 0) for x in column), sum(max(x, 0) for x in column) + 1) for column in columns]
        lows = [1 if k in places else 0 for k in range(len(columns))]
        return [p for p in itertools.product(*ranges)
                if all(low <= part < low + self.whole for low, part in zip(lows, self.parts(p)))]


def all_places(many):
    """All ascending tuples of places from 0 to many - 1."""
    return [places for size in range(many + 1) for places in itertools.combinations(range(many), size)]


def random_cones(seed, size, bound, many, far=9):
    """Some cones of a dimension, with numbers of the vectors up to bound."""
    chance = random.Random(seed)
    cones = []
    while len(cones) < many:
        vectors = tuple(tuple(chance.randint(-bound, bound) for _ in range(size)) for _ in range(size))
        if det(vectors) and all(divisor(vector) == 1 for vector in vectors):
            apex = tuple(chance.randint(-far, far) for _ in range(size))
            cones.append((apex, vectors, chance.choice(all_places(size))))
    return cones


FRAMES = {}


def frame_of(vectors):
    if vectors not in FRAMES:
        FRAMES[vectors] = Frame(vectors)
    return FRAMES[vectors]


def cone_holds(cone, p, scale=1):
    """Whether p over scale is in a cone."""
    apex, vectors, places = cone
    return frame_of(vectors).holds([x - scale * y for x, y in zip(p, apex)], places)


def power_of(z, p):
    """z to the p, a fraction; z are ratios."""
    total = Fraction(1)
    for factor, n in zip(z, p):
        total *= as_fraction(factor) ** n
    return total


def random_maps(seed, many, steps=3):
    """Some rows of determinant 1 or -1 and shifts, in the plane."""
    chance = random.Random(seed)
    found = []
    for _ in range(many):
        rows = chance.choice((((1, 0), (0, 1)), ((0, 1), (1, 0)), ((1, 0), (0, -1)), ((0, -1), (1, 0))))
        for _ in range(chance.randint(0, steps)):
            k = chance.choice((-2, -1, 1, 2))
            by = chance.choice((((1, k), (0, 1)), ((1, 0), (k, 1))))
            rows = tuple(tuple(sum(x * y for x, y in zip(row, column)) for column in zip(*by)) for row in rows)
        found.append((rows, (chance.randint(-9, 9), chance.randint(-9, 9))))
    return found


def hull_facets(points):
    """All facets, by all planes through d points."""
    found = set()
    for group in itertools.combinations(points, len(points[0])):
        ways = [[x - y for x, y in zip(p, group[0])] for p in group[1:]]
        normal = [det([unit] + ways) for unit in units_of(len(group))]
        if not any(normal):
            continue
        for sign in (1, -1):
            a = tuple(sign * x // divisor(normal) for x in normal)
            products = [sum(x * y for x, y in zip(a, p)) for p in points]
            if products[points.index(group[0])] == max(products):
                found.add((a, max(products)))
    return tuple(sorted(found))


def fits(counts, many, degree):
    """Whether so many polynomials of this degree, one for each rest, have these counts."""
    for rest in range(many):
        nodes = list(range(rest, len(counts), many))
        first = nodes[:degree + 1]
        poly = lagrange(first, [counts[node] for node in first])
        if any(poly_value(poly, node) != counts[node] for node in nodes):
            return False
    return True


def series_by_listing(cone, z):
    """The value, a fraction, by the points of a listed box; None for a pole."""
    apex, vectors, places = cone
    total = sum(power_of(z, [x + y for x, y in zip(apex, p)]) for p in Frame(vectors).tile(places))
    for vector in vectors:
        if power_of(z, vector) == 1:
            return None
        total /= 1 - power_of(z, vector)
    return total
