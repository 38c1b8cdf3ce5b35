import itertools
import re

from samples import (EACH_SIZE, NAMED, NO_PICTURES, PICTURE_PATTERN, SIGNS, PictureTest, every_picture, every_rows,
                     full_tree, painted, some_pictures, spoilt, written)

from fourfold.errors import BadBox, FourError, NoPicture, NoText
from fourfold.pictures import is_picture, lean, of_rows
from fourfold.texts import picture_text, read_picture, read_rows, rows_text

# What is looked for in texts, and what is likely to be taken for it.
NEAR_SIGNS = "0129:()\n -+.,a"

NO_TEXTS = [None, 0, 5, True, False, [], (), ["0:5"], ("0:5",), (0, 5), ["5\n"]]


PICTURE = re.compile(PICTURE_PATTERN)

ROWS = re.compile("|".join(rf"(?:[0-9]{{{side}}}\n){{{side}}}" for side in (1, 2, 4, 8)))


class TestPictureText(PictureTest):
    def test_named(self):
        self.assertEqual(picture_text((2, (0, (1, 1, 2, 1), 0, 9))), "2:(0(1121)09)")
        self.assertEqual(picture_text((0, 7)), "0:7")
        self.assertEqual(picture_text((3, 0)), "3:0")
        self.assertEqual(picture_text((1, (1, 2, 3, 4))), "1:(1234)")
        self.assertEqual(picture_text((2, full_tree(2, 5))), "2:((5555)(5555)(5555)(5555))")

    def test_just_as_it_is_told(self):
        for picture in some_pictures(120) + every_picture(1, 3):
            self.assertEqual(picture_text(picture), written(picture))
        for size in range(4):
            told = {picture_text((size, full_tree(depth, 5))) for depth in range(size + 1)}
            self.assertEqual(len(told), size + 1)


class TestReadPicture(PictureTest):
    def test_named(self):
        self.assertEqual(read_picture("2:(0(1121)09)"), (2, (0, (1, 1, 2, 1), 0, 9)))
        self.assertEqual(read_picture("0:0"), (0, 0))
        self.assertEqual(read_picture("3:9"), (3, 9))
        self.assertEqual(read_picture("1:(5555)"), (1, (5, 5, 5, 5)))

    def test_reads_back_as_it_is_told(self):
        for picture in some_pictures(120) + every_picture(1, 4) + [(3, full_tree(depth, 6)) for depth in range(4)]:
            self.assertEqual(read_picture(picture_text(picture)), picture)

    def test_named_texts_that_are_none(self):
        for text in ("", ":", "5", "0", "0:", ":5", "05", "0;5", "0:5\n", "\n0:5", " 0:5", "0:5 ", "0 :5", "0: 5", "0:55",
                     "00:5", "4:5", "9:5", "-1:5", "+0:5", "0:-5", "0:10", "0:x", "x:0", "0:(1234)", "1:()", "1:(1)",
                     "1:(123)", "1:(12345)", "1:1234", "1:(1234", "1:1234)", "1:(1234))", "1:((1234))", "1:((1234)234)",
                     "1:(1,2,3,4)", "1:(1 2 3 4)", "1:[1234]", "(1, 5)", "1:(123a)", "1:(12(3)4)", "2:(12(34)", "1:5(",
                     "1:)", "1:(", "0:5:5", "0:50:5", "1:(1234)1:(1234)", "1::5", "1:(12:34)", "2:1:5"):
            with self.subTest(text=text):
                self.assertRaises(NoText, read_picture, text)

    def test_other_signs_are_no_figures(self):
        for sign in SIGNS:
            for text in (f"0:{sign}", f"1:(12{sign}4)"):
                if sign in "0123456789":
                    self.assertEqual(written(read_picture(text)), text)
                else:
                    self.assertRaises(NoText, read_picture, text)
            if sign not in "0123":
                self.assertRaises(NoText, read_picture, f"{sign}:5")

    def test_trees_as_deep_as_the_size_and_deeper(self):
        for size in range(4):
            for depth in range(14):
                text = written((size, full_tree(min(depth, 5), 3)))
                if depth <= size:
                    self.assertEqual(read_picture(text), (size, full_tree(depth, 3)))
                else:
                    self.assertRaises(NoText, read_picture, text)
                many = depth + size + 1
                self.assertRaises(NoText, read_picture, f"{size}:" + "(" * many + "3" + ")" * many)
        self.assertRaises(NoText, read_picture, "3:" + "(" * 100000)
        self.assertRaises(NoText, read_picture, "3:" + "(" * 100000 + "5")

    def assert_read_just_if_written(self, text):
        if PICTURE.fullmatch(text):
            told = read_picture(text)
            self.assertEqual(written(told), text)
            self.assertTrue(is_picture(told), text)
        else:
            self.assertRaises(NoText, read_picture, text)

    def test_spoilt_texts(self):
        for picture in NAMED + EACH_SIZE:
            text = picture_text(picture)
            for other in spoilt(text, SIGNS if len(text) < 20 else NEAR_SIGNS):
                self.assert_read_just_if_written(other)

    def test_all_short_texts(self):
        for many in range(5):
            for signs in itertools.product("015:(", repeat=many):
                self.assert_read_just_if_written("".join(signs))
        for signs in itertools.product("1()", repeat=8):
            self.assert_read_just_if_written("1:" + "".join(signs))


class TestRowsText(PictureTest):
    def test_named(self):
        self.assertEqual(rows_text((2, (0, (1, 1, 2, 1), 0, 9))), "0011\n0021\n0099\n0099\n")
        self.assertEqual(rows_text((0, 7)), "7\n")
        self.assertEqual(rows_text((1, (1, 2, 3, 4))), "12\n34\n")
        self.assertEqual(rows_text((3, full_tree(3, 0))), "00000000\n" * 8)

    def test_all(self):
        for picture in some_pictures(120) + every_picture(1, 3):
            rows = painted(picture)
            self.assertEqual(rows_text(picture), "".join("".join(map(str, row)) + "\n" for row in rows))


class TestReadRows(PictureTest):
    def test_named(self):
        self.assertEqual(read_rows("0011\n0021\n0099\n0099\n"), (2, (0, (1, 1, 2, 1), 0, 9)))
        self.assertEqual(read_rows("7\n"), (0, 7))
        self.assertEqual(read_rows("12\n34\n"), (1, (1, 2, 3, 4)))
        self.assertEqual(read_rows("55\n55\n"), (1, 5))
        self.assertEqual(read_rows("88888888\n" * 8), (3, 8))

    def test_reads_back_in_the_least_form(self):
        for picture in some_pictures(120) + every_picture(1, 4):
            self.assertEqual(read_rows(rows_text(picture)), lean(picture))
        for rows in every_rows(1, 4):
            text = "".join("".join(map(str, row)) + "\n" for row in rows)
            self.assertEqual(read_rows(text), of_rows(rows))
            self.assertEqual(rows_text(read_rows(text)), text)

    def test_named_texts_that_are_none(self):
        for text in ("", "\n", "\n\n", "5", "5\n\n", "\n5\n", "5\n5\n", "55\n", "55\n55", "55\n55\n\n", "55\n\n55\n",
                     "5555\n", "55\n55\n55\n55\n", "5\n5\n5\n5\n", "55\n5\n", "5\n55\n", "55\n555\n", "555\n555\n555\n",
                     "55 \n55\n", " 5\n", "5 \n", "-5\n", "x\n", "5,5\n5,5\n", "5\t\n", "1a\n23\n", "55\n5 \n", "0:5", "0:5\n",
                     "5555\n5555\n5555\n", "5555\n" * 5, "5555\n" * 8, "88888888\n" * 4, "88888888\n" * 7,
                     "88888888\n" * 9, "8" * 16 + "\n", ("8" * 16 + "\n") * 16, "8" * 64, "888\n" * 3, "888888\n" * 6):
            with self.subTest(text=text):
                self.assertRaises(NoText, read_rows, text)

    def test_lines_end_with_line_feeds_alone(self):
        for end in ("\r", "\r\n", "\v", "\f", " ", ";", "\\n", "\u2028", "\x85", "\x1e"):
            self.assertRaises(NoText, read_rows, f"12{end}34{end}")
            self.assertRaises(NoText, read_rows, f"5{end}")

    def test_spoilt_texts(self):
        for picture in EACH_SIZE[:3] + [(1, (1, 2, 3, 4))]:
            for other in spoilt(rows_text(picture), SIGNS):
                self.assert_read_just_if_written(other)
        for other in spoilt(rows_text(EACH_SIZE[3]), "0\n "):
            self.assert_read_just_if_written(other)

    def assert_read_just_if_written(self, text):
        if ROWS.fullmatch(text):
            self.assert_shows(read_rows(text), tuple(tuple(map(int, line)) for line in text.split()))
        else:
            self.assertRaises(NoText, read_rows, text)

    def test_all_short_texts(self):
        for many in range(8):
            for signs in itertools.product("05\n", repeat=many):
                self.assert_read_just_if_written("".join(signs))


class TestRefusals(PictureTest):
    def test_things_that_are_no_picture(self):
        for thing in NO_PICTURES:
            self.assertRaises(NoPicture, picture_text, thing)
            self.assertRaises(NoPicture, rows_text, thing)

    def test_things_that_are_no_text(self):
        for thing in NO_TEXTS:
            self.assertRaises(NoText, read_picture, thing)
            self.assertRaises(NoText, read_rows, thing)

    def test_no_text_is_no_other_refusal(self):
        self.assertEqual(NoText.__mro__[1:3], (FourError, ValueError))
        for call, text in ((read_picture, "0:"), (read_rows, "5"), (read_rows, "1\n2\n"), (read_picture, "4:5")):
            try:
                call(text)
            except FourError as error:
                self.assertIs(type(error), NoText)
                self.assertNotIsInstance(error, (NoPicture, BadBox))
            else:
                self.fail(text)
