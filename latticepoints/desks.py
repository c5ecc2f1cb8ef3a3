"""Desks, which hold shapes by names (point 35)."""
from latticepoints.brion import count_by_cones
from latticepoints.errors import BadCommand, BadName, BadText, NotText
from latticepoints.reflexive import polar
from latticepoints.stars import star
from latticepoints.texts import read_shape
from latticepoints.widths import product, pyramid

MOST_LETTERS = 8
MOST_DIGITS = 10


def is_name(word):
    """Tell whether a word has 1 to 8 small letters."""
    return 1 <= len(word) <= MOST_LETTERS and all(letter in "abcdefghijklmnopqrstuvwxyz" for letter in word)


def is_number(word):
    """Tell whether a word has 1 to 10 digits, the first one not 0 unless it is alone."""
    if not 1 <= len(word) <= MOST_DIGITS or not all(digit in "0123456789" for digit in word):
        return False
    return word == "0" or word[0] != "0"


class Desk:
    """Shapes by names, and what their names stood for before."""

    def __init__(self):
        self._shapes = {}
        self._past = []

    def run(self, text):
        """Do the commands of a text, and return the tuple of their answers; with an error nothing is done."""
        if not isinstance(text, str):
            raise NotText("not a string")
        shapes, past = dict(self._shapes), list(self._past)
        answers = []
        for line, command in enumerate(text.split("\n")):
            if command != "":
                answers.extend(obeyed(shapes, past, line, command.split(" ")))
        self._shapes, self._past = shapes, past
        return tuple(answers)

    def names(self):
        """Return the ascending tuple of all names that stand for a shape."""
        return tuple(sorted(self._shapes))

    def shape(self, name):
        """Return the shape for which a name stands."""
        if not isinstance(name, str) or name not in self._shapes:
            raise BadName("not a name that stands for a shape")
        return self._shapes[name]


def obeyed(shapes, past, line, words):
    """Do the command with these words, and return the list of its answers, at most one."""
    if words == ["undo"]:
        return [taken_back(shapes, past)]
    if len(words) == 2 and words[0] == "star":
        return [" ".join([str(number) for number in star(named(shapes, line, words[1]))])]
    if len(words) == 3 and words[0] == "count" and is_number(words[2]):
        return [str(count_by_cones(named(shapes, line, words[1]), int(words[2])))]
    if len(words) < 4 or words[1] != "=" or not is_name(words[0]):
        raise BadCommand(line)
    made = made_by(shapes, line, words[2], words[3:])
    past.append((words[0], shapes.get(words[0])))
    shapes[words[0]] = made
    return []


def taken_back(shapes, past):
    """Take the last command back that made a name stand for a shape, and return the answer."""
    if not past:
        return "nothing"
    name, before = past.pop()
    if before is None:
        del shapes[name]
    else:
        shapes[name] = before
    return name


def named(shapes, line, word):
    """Return the shape for which a word stands; or BadCommand."""
    if word not in shapes:
        raise BadCommand(line)
    return shapes[word]


def made_by(shapes, line, verb, words):
    """Return the shape that a verb makes of the words behind it; or an error."""
    if verb == "points" and len(words) == 1:
        try:
            return read_shape(words[0])
        except BadText:
            raise BadCommand(line) from None
    if verb == "product" and len(words) == 2:
        return product(named(shapes, line, words[0]), named(shapes, line, words[1]))
    if verb == "pyramid" and len(words) == 1:
        return pyramid(named(shapes, line, words[0]))
    if verb == "polar" and len(words) == 1:
        return polar(named(shapes, line, words[0]))
    raise BadCommand(line)
