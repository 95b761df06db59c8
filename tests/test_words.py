"""Promises 10, 11, 2 and 3: whole numbers, words, paths."""

import string
import unittest

from clonewood.errors import NoPath
from clonewood.words import is_whole, is_within, is_word, names_of, path_of

GOOD_SIGNS = string.ascii_lowercase + string.digits
ALL_SIGNS = [chr(number) for number in range(32, 127)] + ["\n"]
BAD_SIGNS = [sign for sign in ALL_SIGNS if sign not in GOOD_SIGNS]
WHOLE_NUMBERS = [0, 1, 2, -1, 8, 40, 999999, 4294967295, 4294967296, -4294967296, 10 ** 30]
WORDS = ["a", "z", "0", "9", "box", "b3", "3", "abcdefgh", "01234567", "a0z9b1y8"]
OTHER_TEXTS = ["", "abcdefghi", "012345678", "A", "a b", "a/b", "a\n", " a", "a "]
OTHER_THINGS = [
    True, False, None, [], [1], ["a"], ["a", "b"], (), (1,), ("a",), {}, {"a": 1}, {1: "a"},
    1.0, b"a", b"", {1}, object(), len, int, str,
]
PLAIN_PATHS = {
    "a": ["a"],
    "3": ["3"],
    "b/3/box": ["b", "3", "box"],
    "abcdefgh/01234567": ["abcdefgh", "01234567"],
    "a/a": ["a", "a"],
    "a/b/c/d/e/f": ["a", "b", "c", "d", "e", "f"],
    "/".join(["abcdefg9"] * 6): ["abcdefg9"] * 6,
}


class WholeNumbers(unittest.TestCase):
    def test_whole_numbers(self):
        for number in WHOLE_NUMBERS:
            with self.subTest(number):
                self.assertIs(is_whole(number), True)

    def test_no_whole_numbers(self):
        for thing in WORDS + OTHER_TEXTS + OTHER_THINGS:
            with self.subTest(repr(thing)):
                self.assertIs(is_whole(thing), False)


class Bounds(unittest.TestCase):
    def test_at_and_beside_both_bounds(self):
        for low, high in ((0, 40), (1, 8), (-5, -2), (0, 4294967295), (3, 4)):
            with self.subTest((low, high)):
                self.assertIs(is_within(low - 1, low, high), False)
                self.assertIs(is_within(low, low, high), True)
                self.assertIs(is_within(low + 1, low, high), True)
                self.assertIs(is_within(high - 1, low, high), True)
                self.assertIs(is_within(high, low, high), True)
                self.assertIs(is_within(high + 1, low, high), False)

    def test_one_number_alone_and_none(self):
        self.assertIs(is_within(6, 7, 7), False)
        self.assertIs(is_within(7, 7, 7), True)
        self.assertIs(is_within(8, 7, 7), False)
        self.assertIs(is_within(7, 8, 6), False)

    def test_no_whole_number_lies_within(self):
        for thing in WORDS + OTHER_TEXTS + OTHER_THINGS:
            with self.subTest(repr(thing)):
                self.assertIs(is_within(thing, 0, 40), False)
                self.assertIs(is_within(thing, -1000, 1000), False)


class Words(unittest.TestCase):
    def test_words(self):
        for word in WORDS:
            with self.subTest(word):
                self.assertIs(is_word(word), True)

    def test_no_words(self):
        for thing in WHOLE_NUMBERS + OTHER_TEXTS + OTHER_THINGS:
            with self.subTest(repr(thing)):
                self.assertIs(is_word(thing), False)

    def test_lengths(self):
        for sign in ("a", "7"):
            for many in range(12):
                with self.subTest(sign * many):
                    self.assertIs(is_word(sign * many), 1 <= many <= 8)

    def test_every_good_sign_at_every_place(self):
        for sign in GOOD_SIGNS:
            for text in self.texts_with(sign):
                with self.subTest(text):
                    self.assertIs(is_word(text), True)

    def test_every_bad_sign_at_every_place(self):
        self.assertEqual(len(BAD_SIGNS), 60)
        for sign in BAD_SIGNS:
            for text in self.texts_with(sign):
                with self.subTest(repr(text)):
                    self.assertIs(is_word(text), False)

    def texts_with(self, sign):
        return [("a0" * 4)[:at] + sign + ("z9" * 4)[at + 1:many] for many in range(1, 9) for at in range(many)]


class Names(unittest.TestCase):
    def refuse(self, thing):
        with self.subTest(repr(thing)):
            with self.assertRaises(NoPath) as taken:
                names_of(thing)
            self.assertIs(taken.exception.path, thing)

    def test_the_top_folder_has_no_names(self):
        self.assertEqual(names_of(""), [])

    def test_names_outermost_first(self):
        for path, names in PLAIN_PATHS.items():
            with self.subTest(path):
                self.assertEqual(names_of(path), names)

    def test_how_many_words(self):
        for many in range(1, 7):
            self.assertEqual(names_of("/".join(["ab"] * many)), ["ab"] * many)
        for many in range(7, 10):
            self.refuse("/".join(["ab"] * many))

    def test_a_stroke_ahead_behind_and_doubled(self):
        for path in ("/", "//", "/a", "a/", "/a/b", "a/b/", "a//b", "/a/", "a/b//c", "a/b/c/d/e/f/"):
            self.refuse(path)

    def test_a_word_of_nine_signs_at_every_place(self):
        for many in range(1, 7):
            for at in range(many):
                names = ["abcdefgh"] * many
                names[at] = "abcdefghi"
                self.refuse("/".join(names))

    def test_a_bad_sign_at_every_place(self):
        for sign in BAD_SIGNS:
            if sign != "/":
                for path in ("*", "a*", "*a", "a/*", "*/a", "a/*/b", "a/b*", "*a/b", "a*/b", "a/*b", "a/b*c/d"):
                    self.refuse(path.replace("*", sign))

    def test_things_of_other_kinds(self):
        for thing in WHOLE_NUMBERS + OTHER_THINGS:
            self.refuse(thing)

    def test_a_thing_refused_is_not_changed(self):
        things = ["a", ["b"]]
        self.refuse(things)
        self.assertEqual(things, ["a", ["b"]])

    def test_the_list_is_a_new_one_each_time(self):
        for path in ["", *PLAIN_PATHS]:
            with self.subTest(path):
                first = names_of(path)
                kept = list(first)
                first.append("more")
                first[0] = "other"
                self.assertIs(type(first), list)
                self.assertEqual(names_of(path), kept)


class Paths(unittest.TestCase):
    def test_the_path_of_no_names(self):
        self.assertEqual(path_of([]), "")

    def test_paths_of_names(self):
        for path, names in PLAIN_PATHS.items():
            with self.subTest(path):
                self.assertEqual(path_of(names), path)

    def test_back_from_names(self):
        for path in ["", *PLAIN_PATHS]:
            with self.subTest(path):
                self.assertEqual(path_of(names_of(path)), path)

    def test_the_list_stays_as_it_was(self):
        for path, names in [("", []), *PLAIN_PATHS.items()]:
            with self.subTest(path):
                handed = list(names)
                self.assertEqual(path_of(handed), path)
                self.assertEqual(handed, names)
                self.assertEqual(path_of(handed), path)

    def test_a_list_changed_later_changes_no_path(self):
        names = ["a", "b"]
        path = path_of(names)
        names.append("c")
        self.assertEqual(path, "a/b")

    def test_a_seventh_name_is_not_refused(self):
        self.assertEqual(path_of(["a"] * 7), "a/a/a/a/a/a/a")


if __name__ == "__main__":
    unittest.main()
