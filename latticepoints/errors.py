"""The errors of the program, one class for each kind of failure."""


class LatticeError(ValueError):
    """The base class of all errors of the program."""


class BadPolynomial(LatticeError):
    """The value is not a polynomial."""


class BadNumber(LatticeError):
    """The value is not an integer in the limits."""


class BadValues(LatticeError):
    """The value is not a tuple of ratios with a right length."""


class BadQuasi(LatticeError):
    """The value is not a quasi-polynomial."""


class BadRows(LatticeError):
    """The value is not rows of integers."""


class BadVector(LatticeError):
    """The value is not a vector that rows of determinant 1 can begin with."""


class BadGoal(LatticeError):
    """The value is not a goal of the right length and size."""


class TooMany(LatticeError):
    """There are more things than the limit."""

    def __init__(self, most):
        super().__init__(f"there are more than {most}")
        self.most = most


class BadShape(LatticeError):
    """The value is not a shape; index tells the first wrong item, None the whole."""

    def __init__(self, index):
        super().__init__(f"not a shape, item: {index}")
        self.index = index


class Flat(LatticeError):
    """The points of the shape do not span the space."""


class BadPoint(LatticeError):
    """The value is not a point of the right dimension."""


class BadHalves(LatticeError):
    """The value is not halves; index tells the first wrong item, None the whole."""

    def __init__(self, index):
        super().__init__(f"not halves, item: {index}")
        self.index = index


class Unbounded(LatticeError):
    """The halves leave a direction without an end."""


class Empty(LatticeError):
    """No point fulfils all halves."""


class BadOpen(LatticeError):
    """The points and places are not those of a half-open simplex."""


class NotSimplex(LatticeError):
    """The shape does not have one point more than its dimension."""


class NotReflexive(LatticeError):
    """The shape is not reflexive."""


class NotPlane(LatticeError):
    """The dimension is not 2."""


class BadCone(LatticeError):
    """The value is not a cone."""


class BadFactors(LatticeError):
    """The value is not factors of the right dimension."""


class Pole(LatticeError):
    """The series has no value at these factors."""


class BadGrade(LatticeError):
    """The value is not a grade for this cone or shape."""


class BadCoins(LatticeError):
    """The value is not coins."""


class BadPair(LatticeError):
    """The values have a common divisor, or are not in the limits."""


class BadSteps(LatticeError):
    """The value is not a row of steps."""


class NoPoint(LatticeError):
    """No point with integer coordinates fulfils all halves."""


class BadPaper(LatticeError):
    """The value is not a paper with right lines; index tells the first wrong one, None the whole."""

    def __init__(self, index):
        super().__init__(f"not a paper with right lines, item: {index}")
        self.index = index


class BadOrder(LatticeError):
    """The value is not an order."""


class BadMap(LatticeError):
    """The value is not a map of the right kind."""


class BadSums(LatticeError):
    """The value is not sums of rows or columns."""


class BadGraph(LatticeError):
    """The value is not a graph."""


class NotText(LatticeError):
    """The value is not a string."""


class BadText(LatticeError):
    """The text is not that of a shape from this place on."""

    def __init__(self, place):
        super().__init__(f"not the text of a shape, place: {place}")
        self.place = place


class BadCommand(LatticeError):
    """This line of the text is no command that can be done."""

    def __init__(self, line):
        super().__init__(f"not a command, line: {line}")
        self.line = line


class BadName(LatticeError):
    """The value is not a name that stands for a shape."""
