import itertools
import random
import re

from samples import (EACH_SIZE, NO_PICTURES, PICTURE_PATTERN, SIGNS, PictureTest, full_tree, listed, melts, painted,
                     rows_by_way, some_pictures, spoilt, written)

from fourfold.albums import Album, album_text, read_album
from fourfold.errors import NoName, NoPicture, NoRule, NoSpot, NoText, NothingDone, Unlike
from fourfold.pictures import is_picture, lean
from fourfold.rules import joined
from fourfold.turns import by_way

NAMES = ["a", "z", "ab", "aa", "xyz", "abcd", "abcde", "zzzzz"]

NO_NAMES = ["", "abcdef", "aaaaaaaaaa", "A", "Abc", "aB", "a1", "1", "0", " ", "a ", " a", "a b", "a_b", "a-b", "a.", "a\n",
            "\n", "a=", "=", "~", "`", "{", "@", "\u00e4", "\u00df", "\u0430", "\u00aa", "a\u0301", None, 0, 1, 5, -1,
            True, False, [], (), ["a"], ("a",), [["a"]], ["a", "b"], listed("a", 10)]

NO_RULES = ["", "most", "Sum", "sum ", "sums", None, 0, True, [], (), ["sum"], ("sum",), listed("sum", 10)]

NO_WAYS = [-1, 8, 9, 10 ** 30, True, False]

RULES = ("first", "last", "least", "greatest", "sum", "times", "less", "same")

NO_TEXTS = [None, 0, 1, -1, True, False, [], (), ["a=0:5\n"], ("a=0:5\n",), [""], [[]], ("",), listed("a=0:5\n", 10)]


def held_by(album):
    return {name: album.picture_of(name) for name in album.names()}


def album_of(pictures):
    album = Album()
    for name, picture in pictures.items():
        album.put(name, picture)
    return album


def three():
    """An album of three pictures, with steps back and forth: another is taken back."""
    album = album_of({"b": (1, (1, 2, 3, 4)), "a": (1, 5), "c": (2, (0, (1, 1, 2, 1), 0, 9)), "gone": (0, 0)})
    album.back()
    return album


class AlbumTest(PictureTest):
    def assert_holds(self, album, pictures, marks):
        self.assertEqual(held_by(album), pictures)
        self.assertEqual(album.names(), sorted(pictures))
        self.assertEqual(album.marks(), marks)
        self.assertIsInstance(album.marks(), tuple)

    def assert_refused(self, error, album, deed, *taken):
        """That it is refused, and the album is as it was, also in what it can take back and do again."""
        def all_told():
            other = album.twin()
            told = [held_by(other), other.marks()]
            while other.marks()[0]:
                told.append((other.back(), held_by(other)))
            other = album.twin()
            while other.marks()[1]:
                told.append((other.forth(), held_by(other)))
            return told

        before = all_told()
        with self.assertRaises(error, msg=(deed, taken)):
            getattr(album, deed)(*taken)
        self.assertEqual(all_told(), before, (deed, taken))

    def go_somewhere(self, source, album, done, undone):
        """Back, forth or on, in an album and in two lists of (word, pictures) that tell what should be there."""
        move = source.randrange(4)
        if move == 0 and len(done) > 1:
            undone.append(done.pop())
            self.assertEqual(album.back(), undone[-1][0])
        elif move == 1 and undone:
            done.append(undone.pop())
            self.assertEqual(album.forth(), done[-1][0])
        elif move > 1:
            done.append(some_deed(source, album, done[-1][1]))
            undone.clear()


class TestPut(AlbumTest):
    def test_named(self):
        album = Album()
        self.assert_holds(album, {}, (0, 0))
        self.assertIs(album.put("b", (1, 5)), False)
        self.assertIs(album.put("a", (1, (1, 2, 3, 4))), False)
        self.assert_holds(album, {"a": (1, (1, 2, 3, 4)), "b": (1, 5)}, (2, 0))
        self.assertIs(album.put("b", (0, 6)), True)
        self.assert_holds(album, {"a": (1, (1, 2, 3, 4)), "b": (0, 6)}, (3, 0))

    def test_in_its_least_form(self):
        album = Album()
        for picture in some_pictures():
            album.put("x", picture)
            self.assertEqual(album.picture_of("x"), lean(picture))
        album.put("y", (3, full_tree(3, 2)))
        self.assertEqual(album.picture_of("y"), (3, 2))

    def test_names_of_one_to_five_letters(self):
        album = Album()
        for number, name in enumerate(NAMES):
            self.assertIs(album.put(name, (0, number)), False)
            self.assertIs(album.put(name, (0, number)), True)
        self.assertEqual(held_by(album), {name: (0, number) for number, name in enumerate(NAMES)})
        for letter in "abcdefghijklmnopqrstuvwxyz":
            self.assertIs(Album().put(letter, (0, 1)), False)
            self.assertIs(Album().put(letter * 5, (0, 1)), False)
            self.assertRaises(NoName, Album().put, letter * 6, (0, 1))

    def test_the_same_again_is_a_deed(self):
        album = album_of({"a": (1, 5)})
        self.assertIs(album.put("a", (1, (5, 5, 5, 5))), True)
        self.assert_holds(album, {"a": (1, 5)}, (2, 0))

    def test_it_had_one_no_more_behind_take(self):
        album = album_of({"a": (1, 5)})
        album.take("a")
        self.assertIs(album.put("a", (1, 5)), False)
        album.back()
        album.back()
        self.assertIs(album.put("a", (1, 5)), True)

    def test_refusals(self):
        for album in (Album(), three()):
            for thing in NO_PICTURES:
                self.assert_refused(NoPicture, album, "put", "a", thing)
            for name in NO_NAMES:
                self.assert_refused(NoName, album, "put", name, (1, 5))
            for name, thing in itertools.product(NO_NAMES[::3], NO_PICTURES[::7]):
                self.assert_refused(NoPicture, album, "put", name, thing)


class TestPictureOf(AlbumTest):
    def test_named(self):
        album = three()
        self.assertEqual(album.picture_of("a"), (1, 5))
        self.assertEqual(album.picture_of("c"), (2, (0, (1, 1, 2, 1), 0, 9)))
        self.assertEqual(album.marks(), (3, 1))

    def test_refusals(self):
        for album in (Album(), three()):
            for name in NO_NAMES + ["d", "ab", "bb", "gone", "zzzzz"]:
                self.assert_refused(NoName, album, "picture_of", name)
                self.assert_refused(NoName, album, "take", name)
                self.assert_refused(NoName, album, "same_as", name)


class TestTake(AlbumTest):
    def test_named(self):
        album = three()
        self.assertEqual(album.take("b"), (1, (1, 2, 3, 4)))
        self.assert_holds(album, {"a": (1, 5), "c": (2, (0, (1, 1, 2, 1), 0, 9))}, (4, 0))
        self.assert_refused(NoName, album, "take", "b")
        self.assert_refused(NoName, album, "picture_of", "b")
        self.assertEqual(album.back(), "take")
        self.assertEqual(album.picture_of("b"), (1, (1, 2, 3, 4)))

    def test_the_last_one(self):
        album = album_of({"a": (1, 5)})
        self.assertEqual(album.take("a"), (1, 5))
        self.assert_holds(album, {}, (2, 0))


class TestJoin(AlbumTest):
    def test_each_rule(self):
        one, other = (2, (0, (1, 1, 2, 1), 3, 9)), (2, ((5, 5, 5, 6), 7, 3, 9))
        for rule in RULES:
            album = album_of({"a": one, "b": other})
            self.assertEqual(album.join("c", rule, "a", "b"), joined(rule, one, other))
            self.assert_holds(album, {"a": one, "b": other, "c": joined(rule, one, other)}, (3, 0))
            self.assertEqual(album.join("c", rule, "b", "a"), joined(rule, other, one))
            self.assertEqual(album.picture_of("c"), joined(rule, other, one))

    def test_in_its_least_form(self):
        album = album_of({"a": (1, (1, 2, 3, 4)), "b": (1, (4, 3, 2, 1))})
        self.assertEqual(album.join("sum", "sum", "a", "b"), (1, 5))
        self.assertEqual(album.picture_of("sum"), (1, 5))

    def test_with_the_same_name_twice(self):
        album = album_of({"a": (1, (1, 2, 3, 4))})
        self.assertEqual(album.join("b", "sum", "a", "a"), (1, (2, 4, 6, 8)))
        self.assertEqual(album.join("a", "sum", "a", "a"), (1, (2, 4, 6, 8)))
        self.assert_holds(album, {"a": (1, (2, 4, 6, 8)), "b": (1, (2, 4, 6, 8))}, (3, 0))

    def test_onto_one_of_the_two(self):
        one, other = (1, (1, 2, 3, 4)), (1, (9, 0, 1, 1))
        for rule in RULES:
            album = album_of({"a": one, "b": other})
            self.assertEqual(album.join("a", rule, "a", "b"), joined(rule, one, other))
            self.assertEqual(held_by(album), {"a": joined(rule, one, other), "b": other})
            self.assertEqual(album.back(), "join")
            self.assertEqual(album.join("b", rule, "a", "b"), joined(rule, one, other))
            self.assertEqual(held_by(album), {"a": one, "b": joined(rule, one, other)})

    def test_refusals(self):
        album = three()
        for rule in NO_RULES:
            self.assert_refused(NoRule, album, "join", "d", rule, "a", "b")
        for name in NO_NAMES:
            self.assert_refused(NoName, album, "join", name, "sum", "a", "b")
        for name in NO_NAMES + ["d", "gone"]:
            self.assert_refused(NoName, album, "join", "d", "sum", name, "b")
            self.assert_refused(NoName, album, "join", "d", "sum", "a", name)
        for rule in RULES:
            self.assert_refused(Unlike, album, "join", "d", rule, "a", "c")
            self.assert_refused(Unlike, album, "join", "a", rule, "c", "b")

    def test_refusals_in_their_order(self):
        album = three()
        for rule, name in itertools.product(NO_RULES, NO_NAMES[::5]):
            self.assert_refused(NoRule, album, "join", name, rule, "a", "b")
            self.assert_refused(NoRule, album, "join", "d", rule, name, name)
            self.assert_refused(NoRule, album, "join", "d", rule, "a", "c")
        for name in NO_NAMES:
            self.assert_refused(NoName, album, "join", name, "sum", "a", "c")
        # The name that gets the picture need not be there, those of the two must.
        self.assert_refused(NoName, album, "join", "a", "sum", "d", "c")
        self.assertEqual(album.join("d", "sum", "a", "b"), (1, (6, 7, 8, 9)))


class TestMove(AlbumTest):
    def test_by_each_way(self):
        for picture in EACH_SIZE:
            for way in range(8):
                album = album_of({"a": picture, "b": picture})
                told = album.move("a", way)
                self.assert_shows(told, rows_by_way(painted(picture), way))
                self.assert_holds(album, {"a": by_way(picture, way), "b": lean(picture)}, (3, 0))
                self.assertEqual(album.back(), "move")
                self.assert_holds(album, {"a": lean(picture), "b": lean(picture)}, (2, 1))

    def test_refusals(self):
        album = three()
        for way in NO_WAYS:
            self.assert_refused(NoSpot, album, "move", "b", way)
        for name in NO_NAMES + ["d", "gone"]:
            self.assert_refused(NoName, album, "move", name, 1)
            self.assert_refused(NoName, album, "move", name, 8)
            self.assert_refused(NoName, album, "move", name, True)


class TestNames(AlbumTest):
    def test_rising(self):
        for order in itertools.permutations(["b", "a", "ab", "aaaaa"]):
            album = Album()
            for name in order:
                album.put(name, (0, 1))
            self.assertEqual(album.names(), ["a", "aaaaa", "ab", "b"])

    def test_same_as(self):
        album = album_of({"d": (1, 5), "b": (1, (5, 5, 5, 5)), "a": (1, 6), "c": (2, 5), "e": (1, 5)})
        self.assertEqual(album.same_as("d"), ["b", "e"])
        self.assertEqual(album.same_as("b"), ["d", "e"])
        self.assertEqual(album.same_as("e"), ["b", "d"])
        self.assertEqual(album.same_as("a"), [])
        self.assertEqual(album.same_as("c"), [])
        album.take("b")
        self.assertEqual(album.same_as("d"), ["e"])

    def test_new_lists_each_time(self):
        album = album_of({"a": (1, 5), "b": (1, 5)})
        album.names().clear()
        album.same_as("a").clear()
        album.names().append("c")
        album.same_as("a").append("c")
        self.assert_holds(album, {"a": (1, 5), "b": (1, 5)}, (2, 0))
        self.assertEqual(album.same_as("a"), ["b"])


def some_deed(source, album, known):
    """Does something, and tells its word and the pictures behind it, as they should be."""
    known = dict(known)
    word = source.choice(("put", "put", "take", "join", "move"))
    if word == "put" or not known:
        name = source.choice("abcde") * source.randint(1, 5)
        picture = source.choice(some_pictures(12))
        assert album.put(name, picture) is (name in known)
        known[name] = lean(picture)
        return "put", known
    name = source.choice(sorted(known))
    if word == "take":
        assert album.take(name) == known.pop(name)
    elif word == "move":
        way = source.randrange(8)
        known[name] = by_way(known[name], way)
        assert album.move(name, way) == known[name]
    else:
        rule = source.choice(RULES)
        other = source.choice([other for other in sorted(known) if known[other][0] == known[name][0]])
        aim = source.choice("abcde")
        known[aim] = joined(rule, known[name], known[other])
        assert album.join(aim, rule, name, other) == known[aim]
    return word, known


class TestBackAndForth(AlbumTest):
    def test_words(self):
        album = Album()
        album.put("a", (1, (1, 2, 3, 4)))
        album.move("a", 1)
        album.join("b", "sum", "a", "a")
        album.take("a")
        self.assertEqual([album.back() for _ in range(4)], ["take", "join", "move", "put"])
        self.assert_refused(NothingDone, album, "back")
        self.assert_holds(album, {}, (0, 4))
        self.assertEqual([album.forth() for _ in range(4)], ["put", "move", "join", "take"])
        self.assert_refused(NothingDone, album, "forth")
        self.assert_holds(album, {"b": (1, (6, 2, 8, 4))}, (4, 0))

    def test_where_there_is_nothing(self):
        for album in (Album(), read_album("a=0:5\n"), Album().twin()):
            self.assert_refused(NothingDone, album, "back")
            self.assert_refused(NothingDone, album, "forth")

    def test_deeds_that_change_nothing(self):
        album = album_of({"a": (1, 5)})
        album.put("a", (1, 5))
        album.move("a", 3)
        album.join("a", "first", "a", "a")
        self.assert_holds(album, {"a": (1, 5)}, (4, 0))
        self.assertEqual(album.back(), "join")
        self.assertEqual(album.back(), "move")
        self.assertEqual(album.back(), "put")
        self.assert_holds(album, {"a": (1, 5)}, (1, 3))
        self.assertEqual(album.back(), "put")
        self.assert_holds(album, {}, (0, 4))

    def test_asking_is_no_deed(self):
        album = three()
        album.names()
        album.picture_of("a")
        album.same_as("a")
        album.marks()
        album.twin()
        album_text(album)
        self.assertEqual(album.marks(), (3, 1))
        self.assertEqual(album.forth(), "put")

    def test_a_new_deed_behind_what_was_taken_back(self):
        for deed, taken in (("put", ("z", (0, 1))), ("put", ("a", (1, 5))), ("take", ("a",)), ("move", ("a", 0)),
                            ("join", ("a", "first", "a", "a"))):
            album = three()
            album.back()
            self.assertEqual(album.marks(), (2, 2))
            getattr(album, deed)(*taken)
            self.assertEqual(album.marks(), (3, 0))
            self.assert_refused(NothingDone, album, "forth")
            self.assertEqual(album.back(), deed)
            self.assert_holds(album, {"a": (1, 5), "b": (1, (1, 2, 3, 4))}, (2, 1))
            self.assertEqual(album.forth(), deed)

    def test_through_all_that_was(self):
        source = random.Random(21)
        for _ in range(6):
            album = Album()
            words, seen = [], [{}]
            for _ in range(40):
                word, known = some_deed(source, album, seen[-1])
                words.append(word)
                seen.append(known)
                self.assert_holds(album, known, (len(words), 0))
            for place in reversed(range(40)):
                self.assertEqual(album.back(), words[place])
                self.assert_holds(album, seen[place], (place, 40 - place))
            for place in range(40):
                self.assertEqual(album.forth(), words[place])
                self.assert_holds(album, seen[place + 1], (place + 1, 39 - place))

    def test_deeds_and_steps_mixed(self):
        source = random.Random(22)
        album = Album()
        done, undone = [(None, {})], []
        for _ in range(400):
            self.go_somewhere(source, album, done, undone)
            self.assert_holds(album, done[-1][1], (len(done) - 1, len(undone)))


class TestTwin(AlbumTest):
    def test_as_this_one(self):
        album = three()
        other = album.twin()
        self.assertIsInstance(other, Album)
        self.assert_holds(other, held_by(album), (3, 1))
        self.assertEqual(other.forth(), "put")
        self.assertEqual(other.names(), ["a", "b", "c", "gone"])
        self.assertEqual([other.back() for _ in range(4)], ["put"] * 4)
        self.assert_holds(other, {}, (0, 4))

    def test_each_goes_by_itself(self):
        deeds = [lambda album: album.put("a", (0, 0)), lambda album: album.put("new", (0, 0)),
                 lambda album: album.take("a"), lambda album: album.move("b", 1),
                 lambda album: album.join("a", "sum", "a", "b"), lambda album: album.back(), lambda album: album.forth()]
        for deed in deeds:
            for first in (0, 1):
                couple = [three()]
                couple.append(couple[0].twin())
                kept = held_by(couple[0])
                deed(couple[first])
                self.assert_holds(couple[1 - first], kept, (3, 1))
                self.assertEqual(couple[1 - first].forth(), "put")
                self.assertEqual(couple[1 - first].names(), ["a", "b", "c", "gone"])
                self.assertNotEqual((held_by(couple[first]), couple[first].marks()), (kept, (3, 1)))

    def test_through_all_that_was(self):
        source = random.Random(23)
        albums = [Album()]
        models = [([(None, {})], [])]
        for step in range(300):
            number = source.randrange(len(albums))
            done, undone = models[number]
            if step % 40 == 20:
                albums.append(albums[number].twin())
                models.append((list(done), list(undone)))
            self.go_somewhere(source, albums[number], done, undone)
            for other, (others_done, others_undone) in zip(albums, models):
                self.assert_holds(other, others_done[-1][1], (len(others_done) - 1, len(others_undone)))

    def test_two_new_albums_go_by_themselves(self):
        one, other = Album(), Album()
        one.put("a", (0, 1))
        self.assert_holds(other, {}, (0, 0))


LINE = re.compile(f"([a-z]{{1,5}})=({PICTURE_PATTERN})\n")


def tree_in(text):
    """The tree that is written so, by how Python reads tuples."""
    return eval(re.sub(r"([0-9)])(?=[0-9(])", r"\1,", text))


def pictures_in(text):
    """The pictures by name of which a text is the writing, or None."""
    if not re.fullmatch(f"(?:{LINE.pattern})*", text):
        return None
    lines = [found.groups() for found in LINE.finditer(text)]
    names = [name for name, told in lines]
    if names != sorted(set(names)):
        return None
    pictures = {name: (int(told[0]), tree_in(told[2:])) for name, told in lines}
    return None if any(melts(tree) for size, tree in pictures.values()) else pictures


MANY = {"a": (1, 5), "ab": (0, 0), "abcde": (2, (0, (1, 1, 2, 1), 0, 9)), "b": (1, (1, 2, 3, 4)),
        "zz": (3, (1, 2, (3, 3, 3, 4), 5))}

MANY_TEXT = "a=1:5\nab=0:0\nabcde=2:(0(1121)09)\nb=1:(1234)\nzz=3:(12(3334)5)\n"


class TestAlbumText(AlbumTest):
    def test_named(self):
        self.assertEqual(album_text(Album()), "")
        self.assertEqual(album_text(album_of({"x": (0, 7)})), "x=0:7\n")
        self.assertEqual(album_text(album_of(MANY)), MANY_TEXT)
        self.assertEqual(album_text(album_of({"x": (3, full_tree(3, 7))})), "x=3:7\n")

    def test_in_whatever_order_they_came(self):
        for order in itertools.permutations(MANY):
            self.assertEqual(album_text(album_of({name: MANY[name] for name in order})), MANY_TEXT)

    def test_what_is_there_now_alone(self):
        album = album_of(MANY)
        album.take("a")
        album.move("b", 4)
        self.assertEqual(album_text(album), "ab=0:0\nabcde=2:(0(1121)09)\nb=1:(2143)\nzz=3:(12(3334)5)\n")
        album.back()
        album.back()
        self.assertEqual(album_text(album), MANY_TEXT)
        while album.marks()[0]:
            album.back()
        self.assertEqual(album_text(album), "")


class TestReadAlbum(AlbumTest):
    def test_named(self):
        self.assert_holds(read_album(""), {}, (0, 0))
        self.assert_holds(read_album("x=0:7\n"), {"x": (0, 7)}, (0, 0))
        self.assert_holds(read_album(MANY_TEXT), MANY, (0, 0))
        self.assertIsInstance(read_album(MANY_TEXT), Album)

    def test_reads_back(self):
        source = random.Random(24)
        album = Album()
        known = {}
        for _ in range(60):
            _, known = some_deed(source, album, known)
            told = read_album(album_text(album))
            self.assert_holds(told, known, (0, 0))
            self.assertEqual(album_text(told), album_text(album))

    def test_named_texts_that_are_none(self):
        for text in ("\n", "a", "a\n", "a=", "a=\n", "=0:5\n", "a=0:5", "a=0:5\n\n", "\na=0:5\n", "a=0:5\nb=0:6",
                     " a=0:5\n", "a =0:5\n", "a= 0:5\n", "a=0:5 \n", "a==0:5\n", "a:0:5\n", "a0:5\n", "A=0:5\n",
                     "abcdef=0:5\n", "a1=0:5\n", "a=0:5=\n", "a=0:5\r\n", "b=0:5\na=0:5\n", "a=0:5\na=0:5\n", "a=0:5\na=0:6\n",
                     "ab=0:5\na=0:5\n", "a=0:5\n\nb=0:5\n", "a=0:5b=0:5\n", "a=1:(5555)\n", "a=2:(1(2222)34)\n",
                     "a=0:10\n", "a=4:5\n", "a=0:(1234)\n", "a=b\n", "a=0:5\nb\n", "0:5\n", "a=0:5\n ",
                     "a=5\n", "a=0:5\n0:5\n"):
            with self.subTest(text=text):
                self.assertRaises(NoText, read_album, text)

    def test_lines_end_with_line_feeds_alone(self):
        for end in ("\r", "\r\n", "\v", "\f", "\u2028", "\x85", "\x1e", "\n\n", ";"):
            self.assertRaises(NoText, read_album, f"a=0:5{end}b=0:6{end}")

    def test_lines_left_out_told_twice_and_exchanged(self):
        lines = MANY_TEXT.splitlines(keepends=True)
        for place in range(len(lines)):
            kept = lines[:place] + lines[place + 1:]
            self.assertEqual(album_text(read_album("".join(kept))), "".join(kept))
            self.assertRaises(NoText, read_album, "".join(lines[:place] + [lines[place]] + lines[place:]))
            self.assertRaises(NoText, read_album, "".join(lines + [lines[place]]))
        for order in itertools.permutations(lines):
            if list(order) != lines:
                self.assertRaises(NoText, read_album, "".join(order))

    def test_spoilt_texts(self):
        read = 0
        for text, signs in ((MANY_TEXT, "0az=:()\n A"), ("a=1:(1234)\n", SIGNS), ("ab=0:5\nb=1:6\n", SIGNS), ("", SIGNS)):
            for other in spoilt(text, signs):
                pictures = pictures_in(other)
                if pictures is None:
                    self.assertRaises(NoText, read_album, other)
                else:
                    read += 1
                    self.assert_holds(read_album(other), pictures, (0, 0))
        self.assertGreater(read, 100)

    def test_pictures_that_are_not_in_their_least_form(self):
        for picture in some_pictures(60):
            text = f"a={written(picture)}\n"
            if lean(picture) == picture:
                self.assert_holds(read_album(text), {"a": picture}, (0, 0))
            else:
                self.assertRaises(NoText, read_album, text)

    def test_things_that_are_no_texts(self):
        for thing in NO_TEXTS + [thing for thing in NO_PICTURES if not isinstance(thing, str)]:
            self.assertRaises(NoText, read_album, thing)

    def test_the_album_goes_on_by_itself(self):
        album = album_of(MANY)
        told = read_album(album_text(album))
        self.assertRaises(NothingDone, told.back)
        self.assertRaises(NothingDone, told.forth)
        told.take("a")
        self.assertEqual(held_by(album), MANY)
        self.assertEqual(told.marks(), (1, 0))
        self.assertEqual(told.back(), "take")
        self.assert_holds(told, MANY, (0, 1))
        self.assertRaises(NothingDone, told.back)
        self.assertEqual(told.forth(), "take")
        album.take("b")
        self.assertEqual(told.names(), ["ab", "abcde", "b", "zz"])

    def test_all_that_is_told_is_a_picture(self):
        for picture in held_by(read_album(MANY_TEXT)).values():
            self.assertTrue(is_picture(picture))
