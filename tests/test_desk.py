"""Point 79."""

import copy
import itertools
from unittest import mock

from doorlots import desk as desk_module
from doorlots.desk import Desk
from doorlots.distances import distance, shortest_row
from doorlots.errors import (
    ColourTaken, DoorTaken, InvalidCommand, InvalidDoor, InvalidHall, InvalidHouse, InvalidRow, InvalidTimes, NoDoor,
    NothingToUndo, TooManyColours, UnknownColour, UnknownLot, Unreachable,
)
from doorlots.houses import House
from doorlots.lots import are_bound, chain, lots
from doorlots.splits import addresses
from doorlots.texts import read_house
from doorlots.walks import repeated, walk
from tests.helper import (
    NOT_COLOURS, Case, Odd, cube, edge, four, line, path, random_crosses, random_houses, sixteen, square, told,
)

# A command of each form, which the desk of a square with a third colour can carry out.
COMMANDS = (
    "push a", "open 1 2 red", "shut 0 3 c", "recolour a z", "drop a b c", "undo", "house", "hall", "lots", "pair a b",
    "chain a b", "distance 0 3", "row 0 3", "address", "walk a b", "repeat 4 a b", "certify a b",
)


def desk_of(house, *commands):
    desk = Desk(house)
    for command in commands:
        desk.say(command)
    return desk


def ready():
    """A desk that can carry out each of the commands."""
    return desk_of(square(), "open 0 3 c", "push b")


def all_told(desk):
    return told((desk.keep.current_house(), desk.keep.walker(), desk.keep.deed_log(), desk.keep.lot_changes()))


class DeskCase(Case):
    def check_says(self, answer, desk, command):
        """The answer to a command that changes nothing, by position and by name."""
        before = all_told(desk)
        self.check_returns(answer, desk.say, command)
        self.assertEqual(all_told(desk), before)

    def check_wrong(self, desk, command):
        self.check_fails(desk, InvalidCommand, "command", command, command)

    def check_fails(self, desk, kind, field, value, command):
        before = all_told(desk)
        self.check_raises(kind, field, value, desk.say, command)
        self.assertEqual(all_told(desk), before)


class Examples(DeskCase):
    def test_square(self):
        desk = Desk(square())
        commands = ("push a", "lots", "address", "certify a b", "row 1 2", "open 0 3 red")
        self.check_same([desk.say(command) for command in commands], ["1", "a b", "1.0", "free", "a b", "ok"])

    def test_path(self):
        desk = Desk(path())
        commands = ("house", "lots", "chain b a", "walk b a b", "repeat 4 a b", "row 1 1")
        self.check_same([desk.say(command) for command in commands],
                        ["house 3; 0 1 a; 1 2 b", "a+b", "b a", "0 0 1 2", "2", "-"])

    def test_errors(self):
        self.check_wrong(Desk(House(1)), "push  a")
        self.check_fails(Desk(House(1)), NoDoor, "door", (0, 1, "a"), "shut 0 1 a")


class Making(DeskCase):
    def test_by_position_and_by_name(self):
        for desk in (Desk(path()), Desk(house=path())):
            self.check_says("house 3; 0 1 a; 1 2 b", desk, "house")
            self.check_says("0", desk, "hall")

    def test_wrong_houses(self):
        self.check_wrong_houses(Desk)
        self.check_raises(InvalidHouse, "house", "house 1", Desk, "house 1")

    def test_each_desk_has_a_keep_of_its_own(self):
        house = square()
        one, other = Desk(house), Desk(house)
        one.say("push a")
        one.say("open 0 3 c")
        self.check_says("0", other, "hall")
        self.check_says("house 4; 0 1 a; 0 2 b; 1 3 b; 2 3 a", other, "house")
        self.assertEqual(house, square())


class Deeds(DeskCase):
    def check_deed(self, answer, desk, command, deed):
        """The command does the deed; undo takes it back."""
        before = all_told(desk)
        self.check_same(desk.say(command), answer)
        self.check_same(desk.keep.deed_log()[-1], deed)
        after = all_told(desk)
        self.check_same(desk.say("undo"), "ok")
        self.assertEqual(all_told(desk), before)
        self.check_same(desk.say(command=command), answer)
        self.assertEqual(all_told(desk), after)

    def test_push(self):
        desk = Desk(path())
        self.check_deed("1", desk, "push a", ("push", "a"))
        self.check_deed("2", desk, "push b", ("push", "b"))
        self.check_deed("2", desk, "push zzzzzz", ("push", "zzzzzz"))
        self.check_deed("2", desk, "push a", ("push", "a"))
        self.check_deed("0", Desk(House(1)), "push a", ("push", "a"))
        self.check_same([Desk(cube(6)).say("push a"), desk_of(line(64), "push a").say("push b")], ["32", "2"])

    def test_open_shut_and_recolour(self):
        desk = Desk(square())
        self.check_deed("ok", desk, "open 0 3 red", ("open", 0, 3, "red"))
        self.check_says("house 4; 0 1 a; 0 2 b; 0 3 red; 1 3 b; 2 3 a", desk, "house")
        self.check_deed("ok", desk, "shut 0 1 a", ("shut", 0, 1, "a"))
        self.check_says("house 4; 0 2 b; 0 3 red; 1 3 b; 2 3 a", desk, "house")
        self.check_deed("ok", desk, "recolour red c", ("recolour", "red", "c"))
        self.check_says("house 4; 0 2 b; 0 3 c; 1 3 b; 2 3 a", desk, "house")

    def test_drop(self):
        self.check_deed("ok", desk_of(square(), "push b"), "drop a", ("drop", ("a",)))
        desk = desk_of(square(), "push b")
        self.check_same([desk.say("drop a"), desk.say("hall"), desk.say("house")], ["ok", "1", "house 2; 0 1 b"])
        self.check_same([desk.say("drop b"), desk.say("hall"), desk.say("house")], ["ok", "0", "house 1"])
        self.check_deed("ok", Desk(path()), "drop a b", ("drop", ("a", "b")))
        self.check_deed("ok", Desk(sixteen()), "drop a b c d e f g h i j k l m n o p", ("drop", tuple("abcdefghijklmnop")))

    def test_undo(self):
        desk = desk_of(square(), "push a", "open 0 3 c")
        self.check_same([desk.say("undo"), desk.say("hall"), desk.say("undo"), desk.say("hall")], ["ok", "1", "ok", "0"])
        before = all_told(desk)
        with self.assertRaises(NothingToUndo):
            desk.say("undo")
        self.assertEqual(all_told(desk), before)

    def test_errors_of_the_deeds(self):
        desk = Desk(path())
        for door in ((0, 3, "c"), (1, 0, "c"), (1, 1, "c"), (2, 10 ** 30, "c"), (10 ** 31 - 1, 10 ** 31 - 1, "c")):
            self.check_fails(desk, InvalidDoor, "door", door, "open {} {} {}".format(*door))
        self.check_fails(desk, DoorTaken, "hall", 1, "open 1 2 a")
        self.check_fails(Desk(sixteen()), TooManyColours, "many", 17, "open 0 1 q")
        for door in ((0, 1, "b"), (1, 0, "a"), (7, 9, "c")):
            self.check_fails(desk, NoDoor, "door", door, "shut {} {} {}".format(*door))
        self.check_fails(desk, Unreachable, "hall", 1, "shut 0 1 a")
        self.check_fails(desk, UnknownColour, "colour", "c", "recolour c b")
        self.check_fails(desk, ColourTaken, "colour", "b", "recolour a b")
        self.check_fails(desk, ColourTaken, "colour", "a", "recolour a a")
        for lot in (("a",), ("b", "a"), ("c",), ("a", "b", "c"), ("a", "a")):
            self.check_fails(desk, UnknownLot, "lot", lot, "drop " + " ".join(lot))


class Questions(DeskCase):
    def houses(self):
        return [House(1), edge("red"), path(), square(), four(), cube(3), line(12), *random_houses(12), *random_crosses(6)]

    def test_house_and_hall(self):
        self.check_says("house 1", Desk(House(1)), "house")
        for house in self.houses():
            text = Desk(house).say("house")
            self.assertNotIn("\n", text)
            self.assertEqual(read_house(text.replace("; ", "\n")), house)
            self.check_says("0", Desk(house), "hall")

    def test_lots(self):
        self.check_says("-", Desk(House(1)), "lots")
        self.check_says("a+b", Desk(path()), "lots")
        self.check_says("a b c", Desk(cube(3)), "lots")
        self.check_says("a+b+c", Desk(four()), "lots")
        for house in self.houses()[1:]:
            answer = Desk(house).say("lots")
            self.check_same(tuple(tuple(word.split("+")) for word in answer.split(" ")), lots(house))

    def test_pair_and_chain(self):
        self.check_says("free", Desk(square()), "pair a b")
        self.check_says("free", Desk(square()), "chain b a")
        self.check_says("bound", Desk(path()), "pair b a")
        for house in self.houses():
            desk = Desk(house)
            for one, other in itertools.permutations(house.colours(), 2):
                bound = are_bound(house, one, other)
                self.check_same(desk.say(f"pair {one} {other}"), "bound" if bound else "free")
                self.check_same(desk.say(f"certify {one} {other}"), "bound" if bound else "free")
                self.check_same(desk.say(f"chain {one} {other}"),
                                " ".join(chain(house, one, other)) if bound else "free")

    def test_distance_and_row(self):
        self.check_says("63", Desk(line(64)), "distance 63 0")
        self.check_says("0", Desk(House(1)), "distance 0 0")
        self.check_says("-", Desk(House(1)), "row 0 0")
        self.check_says("b a", Desk(path()), "row 2 0")
        for house in self.houses():
            desk = Desk(house)
            for start, goal in itertools.product(range(min(house.halls, 8)), repeat=2):
                self.check_same(desk.say(f"distance {start} {goal}"), str(distance(house, start, goal)))
                self.check_same(desk.say(f"row {start} {goal}"), " ".join(shortest_row(house, start, goal)) or "-")

    def test_address(self):
        self.check_says("-", Desk(House(1)), "address")
        self.check_says("1", desk_of(path(), "push a"), "address")
        self.check_says("2", desk_of(path(), "push a", "push b"), "address")
        self.check_says("0.1.1", desk_of(cube(3), "push b", "push c"), "address")
        self.check_says("63", desk_of(line(64), *["push a", "push b"] * 31, "push a"), "address")
        for house in self.houses()[1:]:
            desk = desk_of(house, *[f"push {colour}" for colour in house.colours()])
            expected = addresses(house, lots(house))[desk.keep.walker()]
            self.check_same(desk.say("address"), ".".join(map(str, expected)))

    def test_walk_and_repeat(self):
        """From the walker's hall on; the walker does not move."""
        desk = desk_of(path(), "push a")
        self.check_says("1 0", desk, "walk a")
        self.check_says("1 2 2 1", desk, "walk b zz b")
        self.check_says("1", desk, "hall")
        self.check_says("1", desk, "repeat 0 a")
        self.check_says("0", desk, "repeat 1 a")
        self.check_says("0 0", Desk(House(1)), "walk a")
        for house in self.houses():
            desk = desk_of(house, *[f"push {colour}" for colour in house.colours()])
            row = (*house.colours(), "zz", *house.colours()[:2])
            hall = desk.keep.walker()
            self.check_says(" ".join(map(str, walk(house, hall, row))), desk, "walk " + " ".join(row))
            for times in (0, 1, 5, 10 ** 30):
                self.check_says(str(repeated(house, hall, row, times)), desk, f"repeat {times} " + " ".join(row))

    def test_errors_of_the_questions(self):
        desk = Desk(path())
        for word in ("pair", "chain", "certify"):
            self.check_fails(desk, UnknownColour, "colour", "c", f"{word} c d")
            self.check_fails(desk, UnknownColour, "colour", "d", f"{word} a d")
            self.check_fails(desk, UnknownColour, "colour", "b", f"{word} b b")
            self.check_fails(Desk(House(1)), UnknownColour, "colour", "a", f"{word} a b")
        for word in ("distance", "row"):
            self.check_fails(desk, InvalidHall, "hall", 3, f"{word} 3 4")
            self.check_fails(desk, InvalidHall, "hall", 4, f"{word} 0 4")
            self.check_fails(desk, InvalidHall, "hall", 10 ** 31 - 1, f"{word} {10 ** 31 - 1} 0")
        self.check_fails(desk, InvalidTimes, "times", 10 ** 30 + 1, f"repeat {10 ** 30 + 1} a")
        self.check_fails(desk, InvalidTimes, "times", 10 ** 31 - 1, f"repeat {10 ** 31 - 1} a")

    def test_rows_of_400_and_401_colours(self):
        desk = Desk(path())
        self.check_says("0", desk, "repeat 1" + " a" * 400)
        self.check_same(len(desk.say("walk" + " a" * 400).split(" ")), 401)
        self.check_fails(desk, InvalidRow, "position", None, "walk" + " a" * 401)
        self.check_fails(desk, InvalidRow, "position", None, "repeat 1" + " a" * 401)
        # The row is looked at before the times, and all words before both.
        self.check_fails(desk, InvalidRow, "position", None, f"repeat {10 ** 31 - 1}" + " a" * 401)
        self.check_wrong(desk, "walk" + " a" * 401 + " A")

    def test_rejected(self):
        with mock.patch.object(desk_module, "holds", lambda claim, certificate: False):
            self.check_says("rejected", Desk(path()), "certify a b")
            self.check_says("rejected", Desk(square()), "certify a b")
        seen = []
        with mock.patch.object(desk_module, "holds", lambda *pair: seen.append(pair) or True):
            self.check_same(Desk(square()).say("certify b a"), "free")
        self.assertEqual(seen[0][0], ("free", 4, square().doors, "b", "a"))


class WrongCommands(DeskCase):
    def test_each_command_is_right(self):
        for command in COMMANDS:
            answer = ready().say(command)
            self.assertIs(type(answer), str)
            self.assertNotEqual(answer, "")

    def test_not_a_string(self):
        for command in (None, True, 0, (), ("push", "a"), ["push", "a"], b"push a", {}, path(), Odd()):
            self.check_wrong(ready(), command)

    def test_spaces_and_capitals(self):
        for command in COMMANDS:
            for wrong in (command + " ", " " + command, command.replace(" ", "  ") + "  ", command.upper(), command.title(),
                          command + "\n", "\n" + command, command.replace(" ", "\n") + "\n", command + ";", "." + command,
                          command.replace(" ", "  ", 1) if " " in command else command + "  "):
                self.check_wrong(ready(), wrong)

    def test_a_word_too_many_or_too_few(self):
        more = ("drop", "walk", "repeat")
        for command in COMMANDS:
            words = command.split(" ")
            for extra in ("0", "") if words[0] in more else ("a", "0", "", "push", command):
                self.check_wrong(ready(), command + " " + extra)
            for few in range(1, len(words)):
                wrong = " ".join(words[:few])
                if words[0] not in more or few == 1 or wrong == "repeat 4":
                    self.check_wrong(ready(), wrong)

    def test_no_command(self):
        for command in ("", " ", "\n", "a", "0", "say", "cross 2", "cross 2 a", "do push a", "pusha", "push,a", "help",
                        "colours", "keep", "redo", "push\ta"):
            self.check_wrong(ready(), command)

    def test_colours(self):
        wrong = [colour for colour in NOT_COLOURS if isinstance(colour, str)] + ["0", "12", "-", "+", "a+b"]
        for command in COMMANDS:
            words = command.split(" ")
            for at in range(1, len(words)):
                if not words[at].isdigit():
                    for colour in wrong:
                        if colour != "a b" or words[0] not in ("drop", "walk", "repeat"):
                            self.check_wrong(ready(), " ".join([*words[:at], colour, *words[at + 1:]]))

    def test_numbers(self):
        wrong = ("00", "01", "+1", "-1", "-0", "1.0", "1e1", "0x1", "1_0", "a", "", " 1", "one", "0" * 31, "1" * 32, "9" * 40,
                 "1,0", "0 ")
        for command in COMMANDS:
            words = command.split(" ")
            for at in range(1, len(words)):
                if words[at].isdigit():
                    for number in wrong:
                        self.check_wrong(ready(), " ".join([*words[:at], number, *words[at + 1:]]))

    def test_31_and_32_digits(self):
        desk = Desk(path())
        self.check_fails(desk, InvalidHall, "hall", int("1" * 31), "distance " + "1" * 31 + " 0")
        self.check_wrong(desk, "distance " + "1" * 32 + " 0")
        self.check_says("2", desk, "repeat 1" + "0" * 30 + " a b")
        self.check_fails(desk, InvalidTimes, "times", 2 * 10 ** 30, "repeat 2" + "0" * 30 + " a b")
        self.check_wrong(desk, "repeat 1" + "0" * 31 + " a b")
        self.check_wrong(desk, "open 0 " + "9" * 32 + " c")
        self.check_fails(desk, InvalidDoor, "door", (0, 10 ** 31 - 1, "c"), "open 0 " + "9" * 31 + " c")

    def test_the_command_is_read_before_anything_is_done(self):
        desk = Desk(path())
        self.check_wrong(desk, "drop z Z")
        self.check_wrong(desk, "open 9 9 Z")
        self.check_wrong(desk, "pair z Z")
        self.check_wrong(desk, "distance 99 01")

    def test_colours_that_are_words_of_commands(self):
        desk = Desk(House(2, ((0, 1, "push"), (0, 1, "undo"))))
        self.check_says("push+undo", desk, "lots")
        self.check_says("bound", desk, "pair undo push")
        self.check_same(desk.say("push push"), "1")
        self.check_same(desk.say("push undo"), "0")


class Asking(DeskCase):
    def test_only_deeds_and_undo_change_a_desk(self):
        for command in COMMANDS:
            desk = ready()
            before = copy.deepcopy(told(list(vars(desk.keep).items())))
            first = desk.say(command)
            if command.split(" ")[0] in ("push", "open", "shut", "recolour", "drop", "undo"):
                self.assertNotEqual(told(list(vars(desk.keep).items())), before)
            else:
                self.check_same(desk.say(command), first)
                self.assertEqual(told(list(vars(desk.keep).items())), before)

    def test_the_same_commands_again(self):
        first = [desk.say(command) for desk in [ready()] for command in COMMANDS[:4] + COMMANDS[5:9]]
        again = [desk.say(command) for desk in [ready()] for command in COMMANDS[:4] + COMMANDS[5:9]]
        self.check_same(again, first)
