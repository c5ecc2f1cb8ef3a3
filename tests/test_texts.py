"""Point 34: texts of shapes."""
import random
import re
import unittest

from latticepoints.errors import BadShape, BadText, Flat, NotText
from latticepoints.texts import read_shape, write_shape
from tests.faults import CUBE, GOOD_SHAPES, LINE_OF_12, SQUARE, ask_shapes
from tests.plain import random_shapes
from tests.wrong import KINDS, NUMBERS, expect

SHAPES = GOOD_SHAPES + (((0, 0), (-3, 12), (1, 1)), ((-50, 50), (50, -50), (0, 9)), ((10,), (-10,), (0,), (5,))) + tuple(
    shape for size, bound in ((1, 50), (2, 50), (3, 50), (2, 9)) for shape in random_shapes(340 + size, size, bound, 12, 12))
CHARACTERS = "0123456789-,; .+a_\n\t:'(" + chr(0x660) + chr(0xb2) + chr(0xff11)


def wrong_place(text):
    """The index of the first character that cannot stand there; None if the whole is the text of points."""
    number = r"(0|-?[1-9][0-9]?)"
    if re.fullmatch(rf"{number}([,;]{number})*", text, re.ASCII):
        return None
    for end in range(1, len(text) + 1):
        # What is ahead of a wrong character can be made a text by some characters behind it.
        if not any(re.fullmatch(rf"{number}([,;]{number})*", text[:end] + more, re.ASCII) for more in ("", "0", "1", "11")):
            return end - 1
    return len(text)


class Texts(unittest.TestCase):
    def test_there_and_back(self):
        for shape in SHAPES:
            text = write_shape(shape)
            self.assertEqual(text, ";".join(",".join(map(str, point)) for point in shape))
            self.assertIsNone(wrong_place(text))
            self.assertEqual(read_shape(text), shape)
            self.assertEqual(write_shape(read_shape(text)), text)

    def test_order_of_the_points_is_kept(self):
        for shape in (SQUARE, SQUARE[::-1], ((3,), (-1,), (2,))):
            self.assertEqual(read_shape(write_shape(shape)), shape)
        self.assertEqual(write_shape(((50,), (-50,))), "50;-50")

    def check(self, text):
        place = wrong_place(text)
        if place is not None:
            expect(self, BadText, read_shape, text, place=place)
            return "text"
        shape = tuple(tuple(int(word) for word in part.split(",")) for part in text.split(";"))
        try:
            found = read_shape(text)
        except (BadShape, Flat) as error:
            # The same as for the points.
            expect(self, error.__class__, write_shape, shape, **vars(error))
            return "shape"
        self.assertEqual(found, shape)
        return "good"

    def test_every_character_changed_left_out_or_put_in(self):
        found = {"text": 0, "shape": 0, "good": 0}
        for shape in (SQUARE, ((0, 0), (-3, 12), (1, 1)), ((10,), (-10,), (0,)), ((0, 0, 0), (10, -1, 0), (0, 1, 9), (2, 0, -50))):
            text = write_shape(shape)
            for place in range(len(text) + 1):
                found[self.check(text[:place])] += 1
                found[self.check(text[:place] + text[place + 1:])] += 1
                for character in CHARACTERS:
                    found[self.check(text[:place] + character + text[place + 1:])] += 1
                    found[self.check(text[:place] + character + text[place:])] += 1
        self.assertGreater(min(found.values()), 100)

    def test_drawn_texts(self):
        chance = random.Random(345)
        for _ in range(3000):
            self.check("".join(chance.choice("0012359--,,;;" if chance.random() < 0.9 else CHARACTERS)
                               for _ in range(chance.randint(0, 9))))

    def test_places(self):
        for text, place in (("", 0), ("-", 1), ("0;", 2), ("0,", 2), ("0;1;-", 5), ("-0;1", 1), ("0;-0", 3), ("00;1", 1), ("01;1", 1),
                            ("0;01", 3), ("100;0", 2), ("-100;0", 3), ("0;123", 4), (" 0;1", 0), ("0; 1", 2), ("0;1 ", 3), ("0;1\n", 3),
                            ("0;;1", 2), ("0,,1", 2), (";0", 0), (",0", 0), ("--1;0", 1), ("0-1;0", 1), ("1-1;0", 1), ("+1;0", 0),
                            ("0;1;", 4), ("a", 0), ("0;1a", 3), ("0;1.5", 3), ("1" + chr(0x661) + ";0", 1), (chr(0xb2) + ";0", 0),
                            ("0,0;01", 5), ("0;" + "1,1;" * 500, 2002), ("10;" * 500 + "1x", 1501)):
            expect(self, BadText, read_shape, text, place=place)

    def test_shapes_behind_texts(self):
        twelve = ";".join(str(k) for k in range(12))
        self.assertEqual(read_shape(twelve), LINE_OF_12)
        for text, index in (("0", None), ("0,1", None), (twelve + ";12", None), ("99;0", 0), ("0;51", 1), ("-51;0", 0), ("0;-99", 1),
                            ("0,0;1", 1), ("0;1,1", 1), ("0,0,0,0;1,0,0,0", 0), ("0;1;0", 2), ("0;0", 1), ("0,0;0,1;0,60", 2),
                            ("0,0;1,0;0,0,0", 2), ("0,0;1,1;51,1", 2), (";".join(["0"] * 13), None)):
            expect(self, BadShape, read_shape, text, index=index)
        for text in ("0,0;1,1", "0,0;1,1;2,2", "0,0,0;1,0,0;0,1,0", "-1,-1;0,0;50,50"):
            expect(self, Flat, read_shape, text)
        # No shape either, but the character is told first.
        expect(self, BadText, read_shape, "99;99;x", place=6)
        expect(self, BadText, read_shape, "0;0;", place=4)

    def test_not_text(self):
        for value in KINDS + NUMBERS + (b"0;1".decode().split(";"), SQUARE, ["0;1"], ("0;1",), {"0;1": 1}):
            if not isinstance(value, str):
                expect(self, NotText, read_shape, value)

    def test_write_errors(self):
        ask_shapes(self, expect, BadShape, Flat, write_shape)
        self.assertEqual(write_shape(CUBE), "0,0,0;0,0,1;0,1,0;0,1,1;1,0,0;1,0,1;1,1,0;1,1,1")
