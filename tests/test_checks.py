"""Promise 12: stuff and its check."""

import unittest

from clonewood.checks import check_of

GREATEST = 4294967295
NUMBERS = [0, 1, 2, 5, 31, 32, 255, 65535, 134217727, 134217728, 2147483647, 2147483648, GREATEST - 1, GREATEST]
TEXTS = ["", "a", "b", "aa", "box", "b/3/box", "A z~!", " ", "\n", "a\nb", "0123456789" * 5]
TUPLES = [
    (), (0,), (7,), (GREATEST,), ("",), ("a",), ((),), (1, 2, 3), (3, 2, 1), ((), ()), (GREATEST, 0), (0, GREATEST),
    ("file", 3, 40, ((0, 8, 2, 0), (8, 8, 3, 0))),
    ("folder", 1, 0, (("a", "file", 2), ("box", "folder", 599))),
    ("top", 7, "wood", ((1, 0, ""), (4, 3, "old")), (("main", 1, 0, 12, "", 0),)),
    tuple(NUMBERS), tuple(TEXTS),
]
SIX_DEEP = [
    ((((((),),),),),), ((((((5,),),),),),), ((((((GREATEST, "z"),),),),), "a"),
    (1, (2, (3, (4, (5, (6, "six"), 5), 4), 3), 2), 1),
]
ALL_STUFF = NUMBERS + TEXTS + TUPLES + SIX_DEEP
RECKONED_BY_HAND = [
    (0, 0), (5, 5), (GREATEST, GREATEST), ("", 0), ((), 0), ("a", 65), ((7,), 39), ((0,), 32), (((),), 32),
    (("a",), 1089), ((1, 2), 2082), ((GREATEST, 0), 4294965247), ((0, 0, 0, 0, 0, 0, 0), 7 * 8),
]


def row_by_the_words(stuff):
    if isinstance(stuff, int):
        return [stuff]
    if isinstance(stuff, str):
        return [len(stuff), *stuff.encode("ascii")]
    return [len(stuff)] + [number for part in stuff for number in row_by_the_words(part)]


def check_by_the_words(stuff):
    bits = "0" * 32
    for number in row_by_the_words(stuff):
        bits = bits[5:] + bits[:5]
        laid = f"{number:032b}"
        bits = "".join("01"[one != other] for one, other in zip(bits, laid))
    return int(bits, 2)


def changed_once(stuff):
    """All that stuff becomes when some other number or sign stands in the place of one of it."""
    if isinstance(stuff, int):
        return [number for number in (stuff ^ 1, stuff ^ 2 ** 31, GREATEST - stuff) if number != stuff]
    if isinstance(stuff, str):
        return [stuff[:at] + sign + stuff[at + 1:] for at in range(len(stuff)) for sign in "a9~ " if sign != stuff[at]]
    return [stuff[:at] + (part,) + stuff[at + 1:] for at in range(len(stuff)) for part in changed_once(stuff[at])]


class Checks(unittest.TestCase):
    def test_checks_reckoned_by_hand(self):
        for stuff, check in RECKONED_BY_HAND:
            with self.subTest(repr(stuff)):
                self.assertEqual(check_of(stuff), check)

    def test_checks_reckoned_by_the_words(self):
        for stuff in ALL_STUFF:
            with self.subTest(repr(stuff)):
                self.assertEqual(check_of(stuff), check_by_the_words(stuff))

    def test_every_sign_counts_by_its_number(self):
        for number in [10, *range(32, 127)]:
            with self.subTest(number):
                self.assertEqual(check_of(chr(number)), 32 ^ number)

    def test_a_check_is_a_whole_number_of_32_bits(self):
        for stuff in ALL_STUFF:
            with self.subTest(repr(stuff)):
                self.assertIs(type(check_of(stuff)), int)
                self.assertTrue(0 <= check_of(stuff) <= GREATEST)

    def test_one_number_or_sign_changed_gives_another_check(self):
        for stuff in ALL_STUFF:
            for other in changed_once(stuff):
                with self.subTest(repr((stuff, other))):
                    self.assertNotEqual(check_of(stuff), check_of(other))

    def test_asked_again_it_is_the_same(self):
        first = [check_of(stuff) for stuff in ALL_STUFF]
        self.assertEqual([check_of(stuff) for stuff in ALL_STUFF], first)

    def test_what_lies_somewhat_beyond_is_not_refused(self):
        seven_deep = (((((((1,),),),),),),)
        self.assertEqual(check_of(seven_deep), check_by_the_words(seven_deep))
        self.assertTrue(0 <= check_of((GREATEST + 1, 3)) <= GREATEST)


if __name__ == "__main__":
    unittest.main()
