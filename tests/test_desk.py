"""Promises 97 to 99: the desk, request by request."""

import unittest

from clonewood.desk import Desk
from clonewood.errors import NoFloor, NoWord
from clonewood.rows import line_of, stuff_of
from clonewood.sending import sent
from helper import NO_NUMBERS, WoodCase

# Each request as it may be told, with names and paths that hang on nothing.
FORMS = [
    "folder a p", "put a p 0 1", "put a p 0 1 2 3", "trim a p 1", "hollow a p 0 1", "share a p 0 1 q 0", "twin a p q", "drop a p",
    "move a p q", "limit a p 1", "make a n", "clone m n", "sprout n", "go n", "receive a n", "receive a n 1 (2)", "heads", "stands a",
    "mark m", "lying", "spare", "kind a p", "size a p", "names a p", "cells a p", "weight a p", "room a", "own", "own a", "own a m",
    "shares", "limits a", "send m n", "cut 5", "light", "up", "harm a p", "lose a p", "look", "mend",
]
FURTHER = ["put", "receive", "own"]
NUMBERS = {"put": [3, 4], "trim": [3], "hollow": [3, 4], "share": [3, 4, 6], "limit": [3], "cut": [1]}
NO_NUMBER_WORDS = ["00", "01", "007", "-1", "+1", "1.", "1.0", "1e3", "0x1", "a", "1a", "1_0", "1000000000", "9999999999", "9" * 400,
                   ".", "'1", "(1)", "\u0661", "1\n", "1,"]
NO_ROWS = ["a", "01", "-1", "(", "(1", "1)", "(1,)", "'A", "4294967296", "(((((((1)))))))", "()()", "."]


class DeskCase(WoodCase):
    births = False

    def setUp(self):
        self.desk = Desk(60, "wood", "a", self.births)

    def say(self, *pairs):
        """Requests with their answers, in turn."""
        for request, answer in zip(pairs[::2], pairs[1::2]):
            with self.subTest(request):
                self.same(self.desk.say(request), answer)

    def all_told(self):
        """What the desk answers of everything."""
        told = [self.desk.say(word) for word in ("heads", "lying", "spare", "shares", "look")]
        for name in self.desk.say("heads").split(" ")[1::2]:
            told += [self.desk.say(f"{word} {name}") for word in ("stands", "mark", "room", "limits")]
            told += [self.read(name, "."), self.desk.say(f"weight {name} .")]
        return told

    def read(self, name, path):
        if self.desk.say(f"kind {name} {path}") == "ok file":
            return [self.desk.say(f"size {name} {path}"), self.desk.say(f"cells {name} {path}")]
        names = self.desk.say(f"names {name} {path}").split(" ")[1:]
        return {word: self.read(name, word if path == "." else f"{path}/{word}") for word in names}

    def unchanged(self, *pairs):
        before = self.all_told()
        self.say(*pairs)
        self.assertEqual(self.all_told(), before)


class Desks(DeskCase):
    def test_a_desk_is_made(self):
        for many in [3, 601, -1, *NO_NUMBERS]:
            self.refused(NoFloor, [many], Desk, many, "A", "B", self.births)
        for word in ("", "A", "a b", "abcdefghi", None):
            self.refused(NoWord, [word], Desk, 60, word, "B", self.births)
            self.refused(NoWord, [word], Desk, 60, "w", word, self.births)
        for many in (4, 600):
            self.same(Desk(many, "w", "0", self.births).say("heads"), "ok 0 growth")
        self.same(Desk(many=9, word="w", name="g").say("spare"), "ok 6")

    def test_deeds_of_a_tree(self):
        self.say(
            "folder a d", "ok 2 1", "put a d/f 3 7 8 9", "ok 4 2", "put a g 0 1 2 3 4 5 6 7 8 9", "ok 4 1", "trim a g 12", "ok 2 2",
            "hollow a g 2 3", "ok 2 2", "share a g 0 9 d/h 1", "ok 3 2", "twin a d/f e", "ok 1 1", "move a d/h h", "ok 2 2",
            "limit a d 9", "ok 2 2", "limit a . 40", "ok 1 1", "cells a d/f", "ok 0 0 0 7 8 9", "cells a e", "ok 0 0 0 7 8 9",
            "cells a g", "ok 1 2 0 0 0 6 7 8 9 0 0 0", "cells a h", "ok 0 1 2 0 0 0 6 7 8 9", "size a g", "ok 12",
            "names a .", "ok d e g h", "names a d", "ok f", "kind a .", "ok folder", "kind a d/f", "ok file",
            "drop a g", "ok 1 2", "drop a h", "ok 1 4", "limits a", "ok . 40 4 d 9 3", "weight a .", "ok 4", "weight a d/f", "ok 2",
            "weight a d", "ok 3", "limit a d 0", "ok 2 2", "limits a", "ok . 40 4",
        )

    def test_heads(self):
        self.say(
            "heads", "ok a growth", "stands a", "ok", "put a f 0 5", "ok 3 1", "make a m", "ok 0 0", "put a f 0 6", "ok 3 0",
            "clone m b", "ok 0 0", "sprout s", "ok 1 0", "heads", "ok a growth b growth m make s growth", "stands a", "ok m",
            "stands b", "ok m", "stands s", "ok", "mark m", "ok wood 3", "cells m f", "ok 5", "cells b f", "ok 5", "cells a f", "ok 6",
            "lying", "ok 7", "spare", "ok 51", "room a", "ok 3 0", "room b", "ok 0 3", "room s", "ok 1 0", "own", "ok 0", "own a", "ok 3",
            "own b m", "ok 3", "own m b m", "ok 3", "own a b m s", "ok 7", "shares", "ok a 3 b,m 3 s 1", "go a", "ok 0 3",
            "spare", "ok 51", "go s", "ok 0 1", "spare", "ok 54", "go b", "ok 0 0", "go m", "ok 0 3", "heads", "ok", "shares", "ok",
            "lying", "ok 0", "look", "ok 0",
        )

    def test_names_of_nothing(self):
        self.say("names a .", "ok", "put a f 0 1", "ok 3 1", "trim a f 0", "ok 2 3", "cells a f", "ok", "size a f", "ok 0",
                 "limits a", "ok")

    def test_refusals_with_their_fields(self):
        self.say("folder a d", "ok 2 1", "put a f 0 1 2", "ok 3 1", "make a m", "ok 0 0", "clone m b", "ok 0 0")
        self.unchanged(
            "folder x d", "no NoHead x", "folder m d", "no NotGrowth m", "folder a .", "no NoPath .", "folder a D", "no NoPath D",
            "folder a ./d", "no NoPath ./d", "folder a d", "no There d", "folder a x/y", "no NotThere x/y", "folder a f/y", "no NotThere f/y",
            "put a . 0 1", "no NoPath .", "put a f 0 1000000", "no NoCells", "put a f 0" + " 1" * 41, "no NoCells",
            "put a f 39 1 2", "no NoSpan 39 2", "put a f 999999999 1", "no NoSpan 999999999 1", "put a d 0 1", "no NotFile d",
            "trim a f 41", "no NoSpan 0 41", "trim a d 1", "no NotFile d", "trim a x 1", "no NotThere x",
            "hollow a f 0 3", "no NoSpan 0 3", "hollow a f 0 0", "no NoSpan 0 0", "share a f 0 3 g 0", "no NoSpan 0 3",
            "share a f 0 1 . 0", "no NoPath .", "share a f 0 2 g 39", "no NoSpan 39 2", "twin a d e", "no NotFile d",
            "twin a f d", "no There d", "drop a .", "no NoPath .", "drop a x", "no NotThere x", "move a d d/e", "no Within d/e",
            "move a d .", "no NoPath .", "limit a f 5", "no NotFolder f", "limit a . 1000", "no NoSpan 0 1000",
            "limit a . 2", "no Over . 4", "limit a d 999999999", "no NoSpan 0 999999999",
            "make x n", "no NoHead x", "make m n", "no NotGrowth m", "make a .", "no NoWord .", "make a N", "no NoWord N",
            "make a b", "no OldHead b", "clone a n", "no NotMake a", "clone . n", "no NoHead .", "sprout abcdefghi", "no NoWord abcdefghi",
            "sprout a", "no OldHead a", "go x", "no NoHead x", "go m", "no Needed m b", "stands m", "no NotGrowth m",
            "stands .", "no NoHead .", "mark a", "no NotMake a", "mark x", "no NoHead x", "kind x .", "no NoHead x",
            "kind a x", "no NotThere x", "kind a A", "no NoPath A", "size a .", "no NotFile .", "size a d", "no NotFile d",
            "names a f", "no NotFolder f", "cells a .", "no NotFile .", "weight x A", "no NoHead x", "weight a A", "no NoPath A",
            "weight a x", "no NotThere x", "room x", "no NoHead x", "own a x y", "no NoHead x", "own .", "no NoHead .",
            "limits x", "no NoHead x", "send x y", "no NoHead x", "send a m", "no NotMake a", "send . a", "no NotMake a",
            "send m .", "no NoHead .", "send . .", "no NoHead .", "harm x .", "no NoHead x", "harm a A", "no NoPath A",
            "harm a x", "no NotThere x", "lose x .", "no NoHead x", "lose a A/b", "no NoPath A/b", "lose a f/x", "no NotThere f/x",
            "receive x n", "no NoHead x", "receive m n", "no NotGrowth m", "receive a N", "no NoWord N", "receive a m", "no OldHead m",
            "receive a n", "no BadRow 0", "receive a n 5", "no BadRow 0",
        )

    def test_crowded_too_deep_too_many_no_room(self):
        self.say(*[word for at in range(8) for word in (f"sprout s{at}", "ok 1 0")])
        self.say("sprout t0", "ok 1 0", "sprout t1", "ok 1 0", "sprout t2", "ok 1 0")
        self.unchanged("sprout t3", "no TooMany 12", "make a t3", "no TooMany 12", "receive a t3", "no TooMany 12")
        for at in range(8):
            self.desk.say(f"folder a d{at}")
        self.unchanged("folder a d8", "no Crowded .", "put a d8 0 1", "no Crowded .")
        path = "d0"
        for name in "abcde":
            path += "/" + name
            self.assertTrue(self.desk.say(f"folder a {path}").startswith("ok"))
        self.unchanged("folder a " + path + "/f", "no NoPath " + path + "/f", "move a d0 d1/x", "no TooDeep d1/x")
        self.desk = Desk(5, "w", "a", self.births)
        self.unchanged("put a f 0 1", "no NoRoom 3 2")
        self.say("folder a d", "ok 2 1", "sprout b", "no NoRoom 1 0", "make a m", "ok 0 0", "sprout b", "ok 1 0")

    def test_sending(self):
        self.say("folder a d", "ok 2 1", "put a d/f 2 7 8", "ok 4 2", "make a m", "ok 0 0", "drop a d", "ok 1 0", "make a n", "ok 0 0")
        wood = self.desk.wood
        for first, second in ((".", "m"), (".", "n"), ("m", "n"), ("n", "m"), ("m", "m")):
            rows = sent(wood, None if first == "." else first, second)
            self.say(f"send {first} {second}", " ".join(["ok", *map(line_of, rows)]))
        rows = self.desk.say("send . m").partition(" ")[2]
        self.same(stuff_of(rows.split(" ")[0])[1], ("begin", ("", 0), ("wood", 4)))
        other = Desk(40, "other", "g", self.births)
        self.same(other.say(f"receive g one {rows}"), "ok 4 1")
        self.same([other.say("mark one"), other.say("cells g d/f"), other.say("stands g")], ["ok wood 4", "ok 0 0 7 8", "ok one"])
        rows = self.desk.say("send m n").partition(" ")[2]
        self.same(other.say(f"receive g two {rows}"), "ok 1 0")
        self.same([other.say("mark two"), other.say("names g .")], ["ok wood 6", "ok"])
        self.same(other.say(f"receive g three {rows}"), "no NoBase wood 4")
        self.same(other.say(f"receive g three {self.desk.say('send . m').partition(' ')[2]}"), "no NoBase . 0")
        self.same(other.say(f"receive g three {rows.split(' ')[0]}"), "no BadRow 1")
        self.same(other.say("receive g three 1 () ' (1,2,3)"), "no BadRow 0")
        self.same(other.say("heads"), "ok g growth one make two make")

    def test_the_power(self):
        self.say("folder a d", "ok 2 1", "cut 1", "ok", "folder a e", "no PowerGone")
        for request in FORMS:
            if request.split(" ")[0] not in ("cut", "light", "up", "look", "mend"):
                self.say(request, "no Down")
        self.say("cut 5", "ok", "up", "no PowerGone", "look", "no PowerGone", "mend", "no PowerGone", "heads", "no Down",
                 "light", "ok", "heads", "no Down", "look", "ok 0 a", "folder a", "no NoLine", "up", "ok", "heads", "ok a growth",
                 "names a .", "ok d", "folder a e", "ok 2 1", "cut 0", "ok", "make a m", "no PowerGone", "light", "ok", "up", "ok",
                 "names a .", "ok d e", "heads", "ok a growth", "cut 3", "ok", "cut 1000", "ok", "folder a f", "ok 2 1",
                 "folder a g", "ok 2 1", "cut 0", "ok", "light", "ok", "make a m", "ok 0 0", "up", "ok", "heads", "ok a growth m make")

    def test_up_at_any_time(self):
        self.say("folder a d", "ok 2 1", "spare", "ok 55", "up", "ok", "spare", "ok 55", "names a .", "ok d", "folder a e", "ok 2 1")

    def test_harmed_and_mended(self):
        self.say("put a f 0 1", "ok 3 1", "folder a d", "ok 2 1", "make a m", "ok 0 0", "put a f 0 2", "ok 3 0", "sprout s", "ok 1 0",
                 "make a n", "ok 0 0", "look", "ok 0 a m n s", "harm m f", "ok", "look", "ok 1 a n s", "mend", "ok", "heads",
                 "ok a growth n make s growth", "look", "ok 0 a n s", "cells a f", "ok 2", "cells n f", "ok 2",
                 "lose s .", "ok", "lose a d", "ok", "look", "ok 2", "mend", "ok", "heads", "ok", "lying", "ok 0", "spare", "ok 58",
                 "sprout a", "ok 1 0", "heads", "ok a growth")

    def test_harm_twice_and_lose(self):
        self.say("put a f 0 1", "ok 3 1", "make a m", "ok 0 0", "drop a f", "ok 1 0", "lose m f", "ok", "look", "ok 1 a", "harm a .", "ok",
                 "look", "ok 2", "mend", "ok", "heads", "ok")

    def test_the_power_goes_while_it_is_mended(self):
        self.say("folder a d", "ok 2 1", "sprout s", "ok 1 0", "harm a d", "ok")
        self.say("cut 0", "ok", "mend", "no PowerGone", "mend", "no PowerGone", "light", "ok", "look", "ok 1 s")
        self.say("cut 1", "ok", "mend", "no PowerGone", "light", "ok", "look", "ok 0 s", "mend", "ok", "heads", "ok s growth")

    def test_no_wood(self):
        for place in (0, 1):
            self.desk.floor.lose(place)
        self.say("up", "no NoWood", "look", "no NoWood", "mend", "no NoWood")


class DesksByBirths(Desks):
    births = True


class Rootless(DeskCase):
    def lost(self, *births):
        self.desk = Desk(60, "wood", "a", *births)
        self.say("folder a d", "ok 2 1", "make a m", "ok 0 0", "clone m b", "ok 0 0", "folder b e", "ok 2 0", "drop b d", "ok 1 1",
                 "make b n", "ok 0 0", "harm m d", "ok", "look", "ok 1 b n")

    def test_by_counts(self):
        for births in ([], [False]):
            self.lost(*births)
            self.say("mend", "ok", "heads", "ok b growth n make", "stands b", "ok n", "go n", "ok 0 0", "stands b", "ok",
                     "names b .", "ok e")

    def test_by_births(self):
        self.lost(True)
        self.say("mend", "no Rootless b", "look", "ok 1 b n", "mend", "no Rootless b")


class NoLines(DeskCase):
    def setUp(self):
        DeskCase.setUp(self)
        self.desk.say("make a m")

    def no_line(self, *requests):
        before = self.all_told()
        for request in requests:
            with self.subTest(request):
                self.same(self.desk.say(request), "no NoLine")
        self.assertEqual(self.all_told(), before)

    def test_blanks(self):
        self.no_line("", " ", "  ", "   ")
        for request in FORMS:
            self.no_line(" " + request, request + " ", "  " + request, request + "  ")
            if " " in request:
                self.no_line(request.replace(" ", "  ", 1), request[::-1].replace(" ", "  ", 1)[::-1])
            self.no_line(request.replace(" ", "\n") + "\n", request.replace(" ", "\t") + "\t")

    def test_names(self):
        for name in ("x", "Heads", "HEADS", "head", "headss", "set_limit", "take_in", "put_in", "say", "answer", ".", "1", "come_up",
                     "do_folder", "folder,a", "\n", "heads\n", "'heads", "(heads)", "None", "cut5", "folde", "stands_on", "sent"):
            self.no_line(name, name + " a", name + " a b")

    def test_words_too_few_and_too_many(self):
        for request in FORMS:
            words = request.split(" ")
            if words[0] not in FURTHER:
                self.no_line(request + " a", request + " 1", request + " 1 1")
            least = {"put a p 0 1 2 3": 5, "receive a n 1 (2)": 3, "own a": 1, "own a m": 1}.get(request, len(words))
            for many in range(1, least):
                self.no_line(" ".join(words[:many]))

    def test_numbers(self):
        for request in FORMS:
            words = request.split(" ")
            for at in NUMBERS.get(words[0], []):
                for word in NO_NUMBER_WORDS:
                    self.no_line(" ".join(words[:at] + [word] + words[at + 1:]))
        self.no_line("put a f 0 1 2 x", "put a f 0 1 02", "put a f 0 1 2 1000000000")
        self.no_line("cut 1001", "cut 9999", "cut 999999999", "cut 01", "cut a", "cut -1", "cut .")
        self.say("cut 1000", "ok", "cut 0", "ok", "light", "ok")

    def test_greatest_numbers(self):
        self.say("put a f 999999999 1", "no NoSpan 999999999 1", "put a f 0 999999999", "no NoCells", "put a f 0 999999 0", "ok 3 0",
                 "trim a f 999999999", "no NoSpan 0 999999999", "hollow a f 0 999999999", "no NoSpan 0 999999999")

    def test_rows(self):
        for word in NO_ROWS:
            self.no_line(f"receive a n {word}", f"receive a n 1 {word}", f"receive a n {word} 1", f"receive x N {word}")

    def test_it_comes_ahead_of_all_else(self):
        self.no_line("folder x", "trim x A 01", "put x A x", "send x", "harm x", "sprout", "go")
        self.say("cut 0", "ok", "make a n", "no PowerGone", "heads ", "no NoLine", "heads x", "no NoLine", "trim a f x", "no NoLine",
                 "up up", "no NoLine", "look 1", "no NoLine", "heads", "no Down")


if __name__ == "__main__":
    unittest.main()
