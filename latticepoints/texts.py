"""Texts of shapes (point 34)."""
from latticepoints.errors import BadText, NotText
from latticepoints.shapes import check_shape

# The states behind a character: ahead of a number, behind a minus, behind a digit that may have one more behind it,
# behind a full number.
AHEAD = 0
MINUS = 1
DIGIT = 2
FULL = 3


def write_shape(shape):
    """Return the text of a shape."""
    check_shape(shape)
    return ";".join([",".join([str(number) for number in point]) for point in shape])


def state_behind(state, character):
    """Return the state behind a character, None if it cannot stand in the state ahead of it."""
    if state in (DIGIT, FULL) and character in ",;":
        return AHEAD
    if state == DIGIT and character in "0123456789":
        return FULL
    if state in (AHEAD, MINUS) and character in "123456789":
        return DIGIT
    if state == AHEAD and character == "0":
        return FULL
    if state == AHEAD and character == "-":
        return MINUS
    return None


def check_text(text):
    """Raise BadText if a string is not the text of points."""
    state = AHEAD
    for place, character in enumerate(text):
        state = state_behind(state, character)
        if state is None:
            raise BadText(place)
    if state in (AHEAD, MINUS):
        raise BadText(len(text))


def read_shape(text):
    """Return the shape with this text."""
    if not isinstance(text, str):
        raise NotText("not a string")
    check_text(text)
    shape = tuple(tuple(int(word) for word in words.split(",")) for words in text.split(";"))
    check_shape(shape)
    return shape
