"""Promise 96, with 12: stuff as a line, and lines read back."""

import random
import unittest

from clonewood.errors import NoLine
from clonewood.rows import line_of, stuff_of
from helper import GREATEST, WoodCase

SIX = (((((("a",),),),),),)
LINES = [
    (0, "0"), (7, "7"), (10, "10"), (999999999, "999999999"), (1000000000, "1000000000"), (GREATEST, "4294967295"),
    ("", "'"), ("a", "'a"), ("0", "'0"), ("/", "'/"), ("a/b", "'a/b"), ("abcdefghijklmnopqrstuvwxyz0123456789/", None),
    ((), "()"), ((0,), "(0)"), (("",), "(')"), ((1, 2), "(1,2)"), (("", ""), "(',')"), (((),), "(())"), (((), ()), "((),())"),
    ((3, ("size", "a/b", 40), ()), "(3,('size,'a/b,40),())"), (SIX, "(((((('a))))))"), ((SIX[0], 5, SIX[0]), None),
    ((((((),),),),), None), ((1, (2, (3, (4, (5, (6,)))))), "(1,(2,(3,(4,(5,(6))))))"), ("00", "'00"), (("0a", 12), "('0a,12)"),
]
NO_LINES = [
    "", " ", "a", "abc", "-1", "+1", "00", "01", "007", "1 ", " 1", "1 2", "1,2", "1,", ",1", ",", "1.0", "1_0", "0x1", "1e3",
    "4294967296", "4294967300", "9999999999", "10000000000", "9" * 400, "1" + "0" * 5000, "\u0661", "\u00b2", "1\n", "\n",
    "'A", "'a b", "'a ", " 'a", "'-", "'.", "'_", "''", "'a'", "'a'b", "a'", "'a\n", "'\u00e9", "'(", "')", "'a,", "'a,b", "\"a",
    "(", ")", "((", "))", "(()", "())", ")(", "()()", "(),", "(,)", "(1,)", "(,1)", "(1,,2)", "(1 ,2)", "(1, 2)", "( )", "(1",
    "1)", "(1))", "((1)", "(1)2", "2(1)", "(1(2))", "((1)2)", "(a)", "(01)", "(-1)", "(4294967296)", "('A)", "('a", "('a'b)",
    "(1,2", "(1,2,", "[1]", "{1}", "(1;2)", "()1", "()'a", "1'a", "'a(1)", "True", "None", "(1)\n",
    "((((((()))))))", "(((((((1)))))))", "(1,(2,(3,(4,(5,(6,(7)))))))", "(" * 500, "(" * 5000 + ")" * 5000, "((((((1)))))),",
]


def any_stuff(chance, deep=0):
    kind = chance.choice("ntc" if deep < 6 else "nt")
    if kind == "n":
        return chance.choice((0, 1, GREATEST, chance.randint(0, GREATEST)))
    if kind == "t":
        return "".join(chance.choice("abz019/") for sign in range(chance.randint(0, 4)))
    return tuple(any_stuff(chance, deep + 1) for part in range(chance.randint(0, 4)))


def due_line(stuff):
    """The words of promise 96, one by one."""
    if isinstance(stuff, int):
        return f"{stuff:d}"
    if isinstance(stuff, str):
        return f"'{stuff}"
    return f"({','.join(due_line(part) for part in stuff)})"


class Lines(WoodCase):
    def test_lines(self):
        for stuff, line in LINES:
            with self.subTest(stuff):
                line = due_line(stuff) if line is None else line
                self.same(line_of(stuff), line)
                self.same(stuff_of(line), stuff)

    def test_no_lines(self):
        for line in NO_LINES:
            self.refused(NoLine, [line], stuff_of, line)

    def test_any_stuff(self):
        for seed in range(800):
            stuff = any_stuff(random.Random(seed))
            self.same(line_of(stuff), due_line(stuff))
            self.same(stuff_of(due_line(stuff)), stuff)

    def test_any_texts(self):
        """A text is refused, or it is just the line of what it is read as."""
        read = 0
        for seed in range(6000):
            chance = random.Random(seed)
            line = list(due_line(any_stuff(chance)))
            for again in range(chance.choice((0, 1, 1, 2, 3))):
                at = chance.randint(0, len(line))
                line[at:at + chance.choice((0, 1))] = chance.choice(["", "0", "1", "a", "'", "(", ")", ",", " ", "A"])
            line = "".join(line)
            try:
                stuff = stuff_of(line)
            except NoLine as refusal:
                self.same(refusal.line, line)
            else:
                read += 1
                self.same(due_line(stuff), line)
        self.assertTrue(1000 < read < 5000)


if __name__ == "__main__":
    unittest.main()
