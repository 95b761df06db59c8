"""The interface: each name that the document tells, with its arguments, in the file that it tells."""

import importlib
import inspect
import unittest

FUNCTIONS = """
words: is_whole(thing) is_within(thing,low,high) is_word(thing) names_of(path) path_of(names)
checks: check_of(stuff)
stretches: parts(row,low,high) without(row,low,high) shifted(row,by) tidied(row) laid(row,low,high,new) gaps(row,size)
stretches: places_in(row) cells_of(row,size,fetch) split_up(at,cells) is_row(thing,size)
knots: is_knot(thing) knot_of(stuff)
trees: seek(look,root,path) reach(look,places) weight(look,place) listing(look,root) height(look,place) over(look,root)
trees: names_at(look,root,path) size_at(look,root,path) cells_at(look,root,path)
heads: is_top(thing,place) tops_of(floor)
planting: planted(floor,word,name,births=False) come_up(floor,births=False)
room: own(wood,names) shares(wood) room(wood,name) weight_at(wood,name,path) limits_at(wood,name)
changes: changes(look,one,other)
sending: sent(wood,first,second) put_in(wood,growth,rows,name)
looking: looked(floor) mended(floor,births=False)
rows: line_of(stuff) stuff_of(line)
"""
CLASSES = """
floor.Floor(many): write(place,stuff) read(place) cut_after(many) power_on() is_dark() writes() harm(place) lose(place) copied()
knots.Knot(born):
knots.CellsKnot(born,cells): kind() stuff() points() moved(places)
knots.FileKnot(born,size,row): kind() stuff() points() moved(places)
knots.FolderKnot(born,limit,entries): kind() stuff() points() moved(places) entry(name) with_entry(born,name,kind,place)
knots.FolderKnot(born,limit,entries): without_entry(born,name) with_limit(born,many)
books.Counts(points,born): begun(line,base,root) made(line,stamp) stood(line,base,makes,root) grown(line,root)
books.Counts(points,born): unmade(line,stamp) ended(line) lies(place) lying() count(place)
births.Births(points,born): begun(line,base,root) made(line,stamp) stood(line,base,makes,root) grown(line,root)
births.Births(points,born): unmade(line,stamp) ended(line) lies(place) lying() dead_row(line,stamp)
books.Book(points,born):
growing.Deed(look,root,now): folder(path) drop(path) put(path,at,cells) trim(path,size) hollow(path,at,long)
growing.Deed(look,root,now): share(path,at,long,to,to_at) twin(path,to) move(path,to) set_limit(path,many) need_limits()
growing.Deed(look,root,now): view(place) news() settled(places)
heads.Head(name,line,stamp,root,word,mark): kind()
desk.Desk(many,word,name,births=False): say(request)
"""
WOOD = """
folder(growth,path) put(growth,path,at,cells) trim(growth,path,size) hollow(growth,path,at,long)
share(growth,path,at,long,to,to_at) twin(growth,path,to) drop(growth,path) move(growth,path,to) set_limit(growth,path,many)
make(growth,name) clone(make,name) sprout(name) go(name) take_in(growth,deed,name,word,mark) need_take(growth,name)
begin(growth) heads() root_of(name) mark_of(name) stands_on(name) kind_at(name,path) names_at(name,path) size_at(name,path)
cells_at(name,path) knot_at(place) piece(place) lying() resting() spare()
"""


def brought(module, name):
    return getattr(importlib.import_module(f"clonewood.{module}"), name)


def arguments(told):
    return str(inspect.signature(told)).replace(" ", "")


class TheInterface(unittest.TestCase):
    def held(self, told, found):
        with self.subTest(told):
            self.assertEqual(arguments(found), "(" + told.partition("(")[2])

    def methods(self, found, told):
        for method in told.split():
            self.held(method.replace("(", "(self,").replace(",)", ")"), getattr(found, method.partition("(")[0]))

    def test_functions(self):
        for line in FUNCTIONS.strip().split("\n"):
            module, told = line.split(": ")
            for one in told.split():
                self.held(one, brought(module, one.partition("(")[0]))

    def test_classes(self):
        for line in CLASSES.strip().split("\n"):
            made, told = line.split(":")
            module, name = made.split(".")
            found = brought(module, name.partition("(")[0])
            self.held(name, found)
            self.methods(found, told)

    def test_a_wood(self):
        self.methods(brought("wood", "Wood"), WOOD)

    def test_what_stands_under_what(self):
        for one, other in (("knots.CellsKnot", "knots.Knot"), ("knots.FileKnot", "knots.Knot"), ("knots.FolderKnot", "knots.Knot"),
                           ("books.Counts", "books.Book"), ("births.Births", "books.Book")):
            self.assertEqual(brought(*one.split(".")).__bases__, (brought(*other.split(".")),))


if __name__ == "__main__":
    unittest.main()
