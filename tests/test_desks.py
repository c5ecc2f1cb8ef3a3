"""Point 35: desks, held against a second, plain desk."""
import random
import re
import unittest

from latticepoints.brion import count_by_cones
from latticepoints.desks import Desk
from latticepoints.errors import (BadCommand, BadName, BadNumber, BadShape, BadText, Flat, LatticeError, NotReflexive, NotText,
                                  TooMany)
from latticepoints.reflexive import polar
from latticepoints.stars import star
from latticepoints.texts import read_shape
from latticepoints.widths import product, pyramid
from tests.wrong import KINDS, NUMBERS, expect

HUGE = 10 ** 40


class PlainDesk:
    """A desk that keeps all its states, one for each command that was not taken back."""

    def __init__(self):
        self.states = [{}]
        self.made = []

    def run(self, text):
        if not isinstance(text, str):
            raise NotText()
        states, made, answers = list(self.states), list(self.made), []
        for at, line in enumerate(text.split("\n")):
            if not line:
                continue
            answer = self.do(states, made, line)
            if answer is None:
                raise BadCommand(at)
            answers.extend(answer)
        self.states, self.made = states, made
        return tuple(answers)

    def do(self, states, made, line):
        """The answers of a line; None if it is no command."""
        here = states[-1]
        if line == "undo":
            if not made:
                return ["nothing"]
            states.pop()
            return [made.pop()]
        found = re.fullmatch(r"star ([a-z]{1,8})", line)
        if found:
            return [" ".join(map(str, star(here[found[1]])))] if found[1] in here else None
        found = re.fullmatch(r"count ([a-z]{1,8}) (0|[1-9][0-9]{0,9})", line, re.ASCII)
        if found:
            return [str(count_by_cones(here[found[1]], int(found[2])))] if found[1] in here else None
        found = re.fullmatch(r"([a-z]{1,8}) = (points|product|pyramid|polar) ([^ ]+)( [^ ]+)?", line)
        if not found or (found[4] is not None) != (found[2] == "product"):
            return None
        names = [found[3]] + ([found[4][1:]] if found[4] else [])
        if found[2] == "points":
            try:
                shape = read_shape(found[3])
            except BadText:
                return None
        elif any(name not in here for name in names):
            return None
        else:
            shape = {"product": product, "pyramid": pyramid, "polar": polar}[found[2]](*[here[name] for name in names])
        states.append({**here, found[1]: shape})
        made.append(found[1])
        return []


NAMES = ("a", "b", "undo", "star", "points", "abcdefgh")
TEXTS = ("0;2", "-1;1", "0,0;1,0;0,1", "1,0;0,1;-1,-1", "0,0;2,0;0,2;2,2", "0,0,0;1,0,0;0,1,0;1,1,3", "-1,-1;1,-1;1,1;-1,1", "0;50", "5;3;1")
BAD_TEXTS = ("0;0", "0,0;1,1", "0", "0;51", "0;01", "", "x", "0;1;", "0,0;1", "-0;1")


def drawn_line(chance, wrong):
    name, one, other = [chance.choice(NAMES) for _ in range(3)]
    kind = chance.randint(0, 9)
    if chance.random() < wrong:
        return chance.choice((f"{name} = points {chance.choice(BAD_TEXTS)}", f"{name} = polar zz", "undo ", " undo", f"star  {one}",
                              f"{name} = product {one}", f"{name} = pyramid {one} {other}", f"count {one} 01", f"count {one} 9999999999",
                              "redo", f"{name}= points 0;1", f"{name} = points 0;1 ", f"Name = points 0;1", f"star {one} {other}"))
    if kind < 4:
        return f"{name} = points {chance.choice(TEXTS)}"
    if kind == 4:
        return f"{name} = product {one} {other}"
    if kind == 5:
        return f"{name} = {chance.choice(('pyramid', 'polar'))} {one}"
    if kind == 6:
        return chance.choice((f"star {one}", f"count {one} {chance.choice((0, 1, 7, 10 ** 9, 123456789))}"))
    return chance.choice(("undo", "undo", "undo", ""))


def outcome(desk, text):
    """The answers, or the error and its fields."""
    try:
        return desk.run(text)
    except LatticeError as error:
        return (error.__class__, vars(error))


class Desks(unittest.TestCase):
    def test_drawn_texts_against_a_plain_desk(self):
        chance = random.Random(351)
        done = failed = taken = 0
        for round_number in range(60):
            desk, plain = Desk(), PlainDesk()
            wrong = (0, 0.02, 0.1)[round_number % 3]
            for _ in range(25):
                text = "\n".join(drawn_line(chance, wrong) for _ in range(chance.choice((0, 1, 1, 2, 3, 6))))
                found = outcome(desk, text)
                self.assertEqual(found, outcome(plain, text), text)
                good = isinstance(found, tuple) and not (found and isinstance(found[0], type))
                done += good
                failed += not good
                taken += good and any(answer in NAMES for answer in found)
                self.assertEqual(desk.names(), tuple(sorted(plain.states[-1])))
                for name in desk.names():
                    self.assertEqual(desk.shape(name), plain.states[-1][name])
        self.assertGreater(min(done, failed, taken), 100)

    def test_answers_are_strings(self):
        desk = Desk()
        found = desk.run("a = points 0;2\nstar a\ncount a 0\ncount a 1000000000\nundo\nundo")
        self.assertEqual(found, ("1 1", "1", "2000000001", "a", "nothing"))
        self.assertEqual([answer.__class__ for answer in found], [str] * 5)
        self.assertEqual(desk.run("b = points 0,0,0;1,0,0;0,1,0;1,1,5\nstar b\ncount b 10"), ("1 0 4 0", str(
            count_by_cones(((0, 0, 0), (1, 0, 0), (0, 1, 0), (1, 1, 5)), 10))))

    def test_texts_without_commands(self):
        desk = Desk()
        for text in ("", "\n", "\n\n\n"):
            self.assertEqual(desk.run(text), ())
        self.assertEqual((desk.names(), desk.run("undo")), ((), ("nothing",)))
        self.assertEqual(desk.run("\n\na = points 0;2\n\nstar a\n\n"), ("1 1",))
        self.assertEqual(desk.run("undo\n\nundo"), ("a", "nothing"))

    def test_made_shapes(self):
        desk = Desk()
        desk.run("a = points 0;2\nb = product a a\nc = pyramid b\nd = pyramid a\ne = points 1,0;0,1;-1,-1\nf = polar e\ng = polar f\nh = product b a")
        self.assertEqual(desk.shape("b"), ((0, 0), (0, 2), (2, 0), (2, 2)))
        self.assertEqual(desk.shape("c"), pyramid(desk.shape("b")))
        self.assertEqual(desk.shape("d"), ((0, 0), (0, 1), (2, 0)))
        self.assertEqual(desk.shape("f"), ((-2, 1), (1, -2), (1, 1)))
        self.assertEqual(desk.shape("g"), ((-1, -1), (0, 1), (1, 0)))
        self.assertEqual(desk.shape("h"), product(desk.shape("b"), desk.shape("a")))
        self.assertEqual(desk.names(), tuple("abcdefgh"))
        # The order of the points is that of the text.
        desk.run("a = points 2;0")
        self.assertEqual(desk.shape("a"), ((2,), (0,)))
        # What was made of a shape stays when its name stands for something else.
        self.assertEqual(desk.shape("b"), ((0, 0), (0, 2), (2, 0), (2, 2)))

    def test_name_of_itself(self):
        desk = Desk()
        desk.run("a = points 0;1\na = product a a\na = pyramid a")
        self.assertEqual(len(desk.shape("a")), 5)
        self.assertEqual(desk.run("undo\nstar a\nundo\nstar a\nundo\nundo"), ("a", "1 1 0", "a", "1 0", "a", "nothing"))

    def test_undo(self):
        desk = Desk()
        desk.run("a = points 0;1\nb = points 0;2")
        desk.run("a = points 0;3")
        desk.run("b = points 0;4\na = points 0;5")
        found = []
        for _ in range(7):
            found.append((desk.run("undo"), {name: desk.shape(name)[1][0] for name in desk.names()}))
        self.assertEqual(found, [(("a",), {"a": 3, "b": 4}), (("b",), {"a": 3, "b": 2}), (("a",), {"a": 1, "b": 2}), (("b",), {"a": 1}),
                                 (("a",), {}), (("nothing",), {}), (("nothing",), {})])
        # What has been taken back is not taken back once more.
        self.assertEqual(desk.run("a = points 0;1\nundo\nb = points 0;1\nundo\nundo"), ("a", "b", "nothing"))
        self.assertEqual(desk.run("a = points 0;1\na = points 0;2\nundo\na = points 0;3\nundo\nundo\nundo"), ("a", "a", "a", "nothing"))
        expect(self, BadCommand, desk.run, "a = points 0;1\nundo\nstar a", line=2)
        # Answers alone are not taken back.
        self.assertEqual(desk.run("a = points 0;1\nb = points 0;7\nstar a\ncount b 1\nundo\ncount a 1"), ("1 0", "8", "b", "2"))

    def test_desks_are_apart(self):
        one, other = Desk(), Desk()
        one.run("a = points 0;1")
        self.assertEqual((one.names(), other.names(), other.run("undo"), one.names()), (("a",), (), ("nothing",), ("a",)))

    def test_names_that_are_words_of_commands(self):
        desk = Desk()
        desk.run("undo = points 0;1\nstar = points 0;2\ncount = points 0;3\npoints = product undo star\nnothing = pyramid count\npolar = points -1;1")
        self.assertEqual(desk.run("star star\nstar undo\ncount count 2\nstar points\npolar = polar polar\nundo\nundo"),
                         ("1 1", "1 0", "7", "1 3 0", "polar", "polar"))
        self.assertEqual(desk.names(), ("count", "nothing", "points", "star", "undo"))


GOOD = "a = points 0;2\nb = points 0,0;1,0;0,1\nc = points -1,-1;1,0;0,1\nd = points 0,0,0;1,0,0;0,1,0;1,1,3"
NO_COMMANDS = (
    " ", "  ", "undo ", " undo", "Undo", "UNDO", "undo undo", "undo a", "redo", "undo\t", "undo\r", "star", "star ", "star  a", "star a ",
    " star a", "star a b", "Star a", "star A", "stara", "star\ta", "star e", "star abcdefghi", "count", "count a", "count a ", "count a  5",
    "count  a 5", "count a 5 ", "count a -1", "count a +1", "count a 01", "count a 00", "count a 007", "count a 12345678901",
    "count a 00000000001", "count a 1.0", "count a x", "count a 5 5", "count a b", "count e 5", "count a 1" + chr(0x661), "count a " + chr(0xb2),
    "count 5 a", "count a 1_0", "a", "a =", "a = ", "a = points", "a = points ", "a=points 0;1", "a = points  0;1", "a  = points 0;1",
    "a = points 0;1 ", " a = points 0;1", "a = points 0; 1", "a = points 0;1 0;2", "a = Points 0;1", "a == points 0;1", "a := points 0;1",
    "a = points a", "a = points x", "a = points 0;01", "a = points 0;-0", "a = points 0;", "a = points 0;100", "a = points 0,,0;1", "a = point 0;1",
    "A = points 0;1", "abcdefghi = points 0;1", "a1 = points 0;1", " = points 0;1", "= points 0;1", "a_b = points 0;1",
    chr(0xe4) + " = points 0;1", "a-b = points 0;1", "a = product a", "a = product a ", "a = product", "a = product a a a", "a = product a e",
    "a = product e a", "a = product a 0;1", "a = pyramid", "a = pyramid a a", "a = pyramid e", "a = polar", "a = polar e", "a = polar c c",
    "a = star a", "a = undo", "a = a", "a = b c", "a = copy a", "a points 0;1", "points 0;1", "a = pyramid A", "a = polar ", "\x0b", "a = points 0;1\r")
FAILING = (("x = points 0;0", BadShape, {"index": 1}), ("x = points 0", BadShape, {"index": None}), ("x = points 51;0", BadShape, {"index": 0}),
           ("x = points 0,0;1", BadShape, {"index": 1}), ("x = points 0,0;1,1", Flat, {}), ("x = product b b", TooMany, {"most": 3}),
           ("x = product a d", TooMany, {"most": 3}), ("x = pyramid d", TooMany, {"most": 3}), ("x = polar a", NotReflexive, {}),
           ("x = polar b", NotReflexive, {}), ("count a 1000000001", BadNumber, {}), ("count a 9999999999", BadNumber, {}),
           ("x = points 0;1;2;3\ny = product x x", TooMany, {"most": 12}),
           ("x = points -50,-50,-50;50,50,50;50,-50,-50;-50,50,-50\nstar x", TooMany, {"most": 20000}))


class Errors(unittest.TestCase):
    def desk(self):
        desk = Desk()
        desk.run("zz = points 0;9\nzz = points 0;8")
        desk.run(GOOD)
        return desk

    def unchanged(self, desk):
        self.assertEqual(desk.names(), ("a", "b", "c", "d", "zz"))
        self.assertEqual(desk.shape("a"), ((0,), (2,)))
        self.assertEqual(desk.run("undo\nundo\nundo\nundo\nundo\ncount zz 1\nundo\nundo"), ("d", "c", "b", "a", "zz", "10", "zz", "nothing"))

    def test_no_commands(self):
        desk = self.desk()
        for line in NO_COMMANDS:
            expect(self, BadCommand, desk.run, line, line=0)
            expect(self, BadCommand, desk.run, "undo\nundo\nzz = points 0;1\n\n" + line, line=4)
            expect(self, BadCommand, desk.run, f"\n{line}\nundo\nnonsense", line=1)
            expect(self, BadCommand, desk.run, f"count zz 1\nx = points 0;1\n{line}\nx = points 0;0", line=2)
        self.unchanged(desk)

    def test_errors_of_functions(self):
        desk = self.desk()
        for lines, error, fields in FAILING:
            expect(self, error, desk.run, lines, **fields)
            expect(self, error, desk.run, "undo\nundo\nundo\nundo\n" + GOOD + "\n" + lines, **fields)
            # Ahead of a bad line, and behind it.
            expect(self, error, desk.run, lines + "\nnonsense", **fields)
            expect(self, BadCommand, desk.run, "x = points 0;1\nnonsense\n" + lines, line=1)
            for other, another, more in FAILING:
                expect(self, error, desk.run, lines + "\n" + other, **fields)
        self.unchanged(desk)

    def test_names_that_an_undo_of_the_text_takes_back(self):
        desk = self.desk()
        expect(self, BadCommand, desk.run, "undo\nstar d", line=1)
        expect(self, BadCommand, desk.run, "e = points 0;1\nstar e\nundo\nf = pyramid e", line=3)
        expect(self, BadCommand, desk.run, "f = pyramid e\ne = points 0;1", line=0)
        self.unchanged(desk)

    def test_names_of_eight_and_nine_letters(self):
        desk = Desk()
        self.assertEqual(desk.run("abcdefgh = points 0;3\ncount abcdefgh 1\nz = pyramid abcdefgh"), ("4",))
        expect(self, BadCommand, desk.run, "abcdefghi = points 0;3", line=0)
        expect(self, BadCommand, desk.run, "count abcdefghi 1", line=0)
        self.assertEqual(desk.names(), ("abcdefgh", "z"))

    def test_numbers(self):
        desk = self.desk()
        self.assertEqual(desk.run("count a 0\ncount a 7\ncount a 1000000000\ncount a 999999999"), ("1", "15", "2000000001", "1999999999"))
        for number, error in (("1000000001", BadNumber), ("9999999999", BadNumber), ("10000000000", BadCommand), ("00", BadCommand),
                              ("0000000001", BadCommand), ("0" * 11, BadCommand)):
            expect(self, error, desk.run, f"count a {number}")
        self.unchanged(desk)

    def test_not_text(self):
        desk = self.desk()
        for value in KINDS + NUMBERS + (["undo"], ("undo",), {"undo": 1}, HUGE):
            if not isinstance(value, str):
                expect(self, NotText, desk.run, value)
        self.unchanged(desk)

    def test_bad_names(self):
        desk = self.desk()
        for value in KINDS + NUMBERS + ("e", "A", "a ", " a", "", "aa", "abcdefghi", ["a"], ("a",), {"a": 1}, "0;2", "zz\n"):
            expect(self, BadName, desk.shape, value)
        expect(self, BadName, Desk().shape, "a")
        self.unchanged(desk)
