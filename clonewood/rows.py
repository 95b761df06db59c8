"""Stuff written as a line, and read back from it."""

from clonewood.errors import NoLine
from clonewood.words import GREATEST, SIGNS

FIGURES = "0123456789"
MOST_FIGURES = 10
MOST_DEEP = 6


def line_of(stuff):
    if isinstance(stuff, tuple):
        return "(" + ",".join([line_of(part) for part in stuff]) + ")"
    if isinstance(stuff, str):
        return "'" + stuff
    return str(stuff)


def number_of(text, most):
    # Asked ahead of int, which takes other signs too, and refuses texts that are very long.
    if not 1 <= len(text) <= MOST_FIGURES or not all([sign in FIGURES for sign in text]):
        return None
    if text[0] == "0" and text != "0":
        return None
    return int(text) if int(text) <= most else None


def number_at(line, at):
    end = at
    while end < len(line) and line[end] in FIGURES:
        end = end + 1
    number = number_of(line[at:end], GREATEST)
    if number is None:
        raise NoLine(line)
    return (number, end)


def text_at(line, at):
    end = at
    while end < len(line) and (line[end] in SIGNS or line[end] == "/"):
        end = end + 1
    return (line[at:end], end)


def tuple_at(line, at, deep):
    if deep > MOST_DEEP:
        raise NoLine(line)
    if line[at:at + 1] == ")":
        return ((), at + 1)
    parts = []
    sign = ","
    while sign == ",":
        part = part_at(line, at, deep)
        parts.append(part[0])
        sign = line[part[1]:part[1] + 1]
        at = part[1] + 1
    if sign != ")":
        raise NoLine(line)
    return (tuple(parts), at)


def part_at(line, at, deep):
    sign = line[at:at + 1]
    if sign == "(":
        return tuple_at(line, at + 1, deep + 1)
    if sign == "'":
        return text_at(line, at + 1)
    return number_at(line, at)


def stuff_of(line):
    part = part_at(line, 0, 0)
    if part[1] != len(line):
        raise NoLine(line)
    return part[0]
