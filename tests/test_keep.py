"""Points 64 to 70, and what point 3 says of Keeps."""

import copy
import itertools
import random

from doorlots.distances import shortest_row
from doorlots.errors import (
    ColourTaken, DoorTaken, InvalidColour, InvalidDeed, InvalidDoor, InvalidDoors, InvalidHalls, InvalidHouse, NoDoor,
    NothingToUndo, SharedColour, TooManyColours, TooManyHalls, UnknownColour, UnknownLot, Unreachable,
)
from doorlots.houses import House
from doorlots.keep import Keep, replay
from doorlots.lots import are_bound, lots
from doorlots.splits import addresses, cross, part
from tests.helper import (
    NOT_COLOURS, SIXTEEN, SQUARE_DOORS, WRONG_HOUSES, Case, Odd, cube, edge, four, kinds, line, path, random_crosses,
    random_house, random_houses, sixteen, square, told,
)

DEEDS = (
    ("push", "a"), ("open", 0, 2, "c"), ("shut", 0, 1, "a"), ("recolour", "a", "z"), ("cross", 2, ((0, 1, "c"),)),
    ("drop", ("a",)),
)


class Stop(BaseException):
    """An exception that no program expects."""


def answers(keep):
    """All that a Keep answers, with houses written out."""
    return told((keep.current_house(), keep.walker(), keep.current_lots(), keep.deed_log(), keep.lot_changes(),
                 keep.busy, len(keep), repr(keep)))


def present(keep):
    """What a Keep answers apart from its log and from what the last deed changed."""
    return told((keep.current_house(), keep.walker(), keep.current_lots(), keep.busy, repr(keep)))


def changes(before, after):
    """The pairs of colours of both houses that became bound, and those that became free."""
    both = [colour for colour in before.colours() if colour in after.colours()]
    pairs = list(itertools.combinations(both, 2))
    now = [pair for pair in pairs if are_bound(after, *pair) and not are_bound(before, *pair)]
    then = [pair for pair in pairs if are_bound(before, *pair) and not are_bound(after, *pair)]
    return tuple(now), tuple(then)


def random_deed(keep, source):
    """A deed that often can be done, and sometimes not."""
    house = keep.current_house()
    colours = [*house.colours(), "q", "rr"]
    low, high = sorted(source.choices(range(house.halls + 1), k=2))
    choices = [
        ("push", source.choice(colours)), ("push", source.choice(colours)),
        ("open", low, high, source.choice(colours)),
        ("recolour", source.choice(colours), source.choice(("u", "v", "w", "a"))),
        ("cross", 2, ((0, 1, source.choice("xyza")),)), ("cross", 3, ((0, 1, "k"), (1, 2, "l"))),
        ("drop", source.choice([*lots(house), ("a",)])),
    ]
    if house.doors:
        choices.append(("shut", *source.choice(house.doors)))
    return source.choice(choices)


class Making(Case):
    def test_examples(self):
        keep = Keep(path())
        self.check_same([repr(keep), len(keep), keep == Keep(path())], ["Keep(3 halls, walker in 0)", 0, True])

    def test_by_position_and_by_name(self):
        for keep in (Keep(square()), Keep(house=square())):
            self.check_house(keep.current_house(), 4, SQUARE_DOORS)
            self.check_same((keep.walker(), keep.deed_log(), keep.lot_changes(), keep.busy, len(keep)),
                            (0, (), ((), ()), False, 0))

    def test_repr(self):
        self.check_same(repr(Keep(House(1))), "Keep(1 halls, walker in 0)")
        keep = Keep(path())
        keep.do(("push", "a"))
        self.check_same(repr(keep), "Keep(3 halls, walker in 1)")

    def test_equal(self):
        one, other = Keep(path()), Keep(path())
        self.assertTrue(one == other)
        self.assertFalse(one != other)
        one.do(("push", "a"))
        self.assertFalse(one == other)
        self.assertTrue(one != other)
        # The log does not count.
        one.do(("push", "a"))
        self.assertTrue(one == other)
        self.assertEqual(len(one), 2)
        self.assertFalse(one == Keep(square()))
        one.do(("recolour", "a", "c"))
        self.assertFalse(one == other)

    def test_never_equal_to_another_kind(self):
        for other in (None, 0, False, (), path(), "Keep(3 halls, walker in 0)", (path(), 0), Keep):
            self.assertFalse(Keep(path()) == other)
            self.assertTrue(Keep(path()) != other)
            self.assertFalse(other == Keep(path()))

    def test_len_and_truth(self):
        keep = Keep(path())
        self.assertIs(bool(keep), False)
        keep.do(("push", "z"))
        self.assertIs(bool(keep), True)
        self.check_same(len(keep), 1)
        keep.undo()
        self.assertIs(bool(keep), False)

    def test_wrong_houses(self):
        self.check_wrong_houses(Keep)
        self.check_raises(InvalidHouse, "house", None, Keep, None)
        keep = Keep(path())
        self.check_raises(InvalidHouse, "house", keep, Keep, keep)


class KeepCase(Case):
    def check_fails(self, keep, kind, field, value, deed):
        """The deed raises this error by `do`, by `do_all` and in `replay`, and the Keep stays as it is."""
        before, log = answers(keep), keep.past
        self.check_raises(kind, field, value, keep.do, deed)
        self.check_raises(kind, field, value, keep.do_all, (deed,))
        self.check_raises(kind, field, value, keep.do_all, (("push", "a"), ("push", "zz"), deed, ("push", "a")))
        if len(keep) == 0:
            self.check_raises(kind, field, value, replay, keep.current_house(), (deed,))
        self.assertEqual(answers(keep), before)
        self.assertIs(keep.past, log)

    def check_does(self, house, hall, deed, halls, doors, goal):
        """The deed leads from the house with the walker in this hall to this other house and hall."""
        for call in ("do", "do_all"):
            keep = self.keep_in(house, hall)
            log = keep.deed_log()
            before = answers(keep)
            result = keep.do(deed) if call == "do" else keep.do_all((deed,))
            self.assertIsNone(result)
            self.check_house(keep.current_house(), halls, doors)
            self.check_same(keep.walker(), goal)
            self.check_same(keep.deed_log(), (*log, deed))
            self.check_same(len(keep), len(log) + 1)
            self.check_same(keep.lot_changes(), changes(house, keep.current_house()))
            self.assertIs(keep.busy, False)
            self.assertIsNone(keep.undo())
            self.assertEqual(answers(keep), before)

    def keep_in(self, house, hall):
        """A Keep whose walker stands in this hall."""
        keep = Keep(house)
        for colour in shortest_row(house, 0, hall):
            keep.do(("push", colour))
        return keep


class Push(KeepCase):
    def test_ordinary(self):
        self.check_does(path(), 0, ("push", "a"), 3, path().doors, 1)
        self.check_does(path(), 1, ("push", "a"), 3, path().doors, 0)
        self.check_does(path(), 1, ("push", "b"), 3, path().doors, 2)

    def test_pushes_that_stay(self):
        self.check_does(path(), 2, ("push", "a"), 3, path().doors, 2)
        self.check_does(path(), 1, ("push", "zzzzzz"), 3, path().doors, 1)
        self.check_does(House(1), 0, ("push", "a"), 1, (), 0)

    def test_wrong_colours(self):
        for colour in NOT_COLOURS:
            self.check_fails(Keep(path()), InvalidColour, "colour", colour, ("push", colour))


class OpenAndShut(KeepCase):
    def test_open(self):
        doors = ((0, 1, "a"), (0, 2, "c"), (1, 2, "b"))
        for hall in range(3):
            self.check_does(path(), hall, ("open", 0, 2, "c"), 3, doors, hall)
        self.check_does(square(), 3, ("open", 0, 3, "red"), 4, tuple(sorted([*SQUARE_DOORS, (0, 3, "red")])), 3)

    def test_shut(self):
        for hall in range(4):
            self.check_does(square(), hall, ("shut", 0, 1, "a"), 4, SQUARE_DOORS[1:], hall)

    def test_open_errors(self):
        for low, high, colour in ((0, 0, "c"), (1, 0, "c"), (0, 3, "c"), (-1, 0, "c"), (False, 1, "c"), (0, True, "c"),
                                  (0, 1, "C"), (0, 1, None), ("0", 1, "c"), (None, None, None), (0, [1], "c")):
            door = (low, high, colour)
            self.check_fails(Keep(path()), InvalidDoor, "door", door, ("open", *door))
        self.check_fails(Keep(path()), DoorTaken, "hall", 0, ("open", 0, 1, "a"))
        self.check_fails(Keep(path()), DoorTaken, "hall", 1, ("open", 1, 2, "a"))
        self.check_fails(Keep(path()), DoorTaken, "hall", 2, ("open", 0, 2, "b"))
        self.check_fails(Keep(sixteen()), TooManyColours, "many", 17, ("open", 0, 1, "q"))

    def test_shut_errors(self):
        for door in ((0, 1, "b"), (1, 0, "a"), (False, 1, "a"), (0, True, "a"), (0, 2, "a"), (None, 1, "a"), (0, 1, ["a"])):
            self.check_fails(Keep(path()), NoDoor, "door", door, ("shut", *door))
        self.check_fails(Keep(path()), Unreachable, "hall", 1, ("shut", 0, 1, "a"))
        self.check_fails(Keep(path()), Unreachable, "hall", 2, ("shut", 1, 2, "b"))
        odd = Odd()
        with self.assertRaises(NoDoor) as caught:
            Keep(path()).do(("shut", 0, 1, odd))
        self.assertIs(caught.exception.door[2], odd)


class Recolour(KeepCase):
    def test_ordinary(self):
        self.check_does(path(), 2, ("recolour", "a", "z"), 3, ((0, 1, "z"), (1, 2, "b")), 2)
        self.check_does(square(), 1, ("recolour", "b", "aa"), 4, tuple(
            (low, high, "aa" if colour == "b" else colour) for low, high, colour in SQUARE_DOORS), 1)

    def test_errors(self):
        for colour in ("c", "zz", *NOT_COLOURS):
            self.check_fails(Keep(path()), UnknownColour, "colour", colour, ("recolour", colour, "A"))
        for colour in NOT_COLOURS:
            self.check_fails(Keep(path()), InvalidColour, "colour", colour, ("recolour", "a", colour))
        self.check_fails(Keep(path()), ColourTaken, "colour", "b", ("recolour", "a", "b"))
        self.check_fails(Keep(path()), ColourTaken, "colour", "a", ("recolour", "a", "a"))


class Cross(KeepCase):
    def test_ordinary(self):
        second = (2, ((0, 1, "c"),))
        whole = cross((path(), House(*second)))
        for hall in range(3):
            self.check_does(path(), hall, ("cross", *second), 6, whole.doors, 2 * hall)
        third = (3, ((0, 1, "d"), (1, 2, "e")))
        whole = cross((path(), House(*third)))
        self.check_does(path(), 2, ("cross", *third), 9, whole.doors, 6)

    def test_houses_of_one_hall(self):
        self.check_does(path(), 2, ("cross", 1, ()), 3, path().doors, 2)
        self.check_does(House(1), 0, ("cross", 1, ()), 1, (), 0)
        self.check_does(House(1), 0, ("cross", 3, path().doors), 3, path().doors, 0)

    def test_sixty_four_halls(self):
        whole = cross((line(32), edge("c")))
        self.check_does(line(32), 31, ("cross", 2, ((0, 1, "c"),)), 64, whole.doors, 62)

    def test_errors_of_the_second_house(self):
        for halls in (0, -1, 65, None, True, "2", (2,), Odd()):
            self.check_fails(Keep(path()), InvalidHalls, "halls", halls, ("cross", halls, None))
        for doors in (None, [], [(0, 1, "c")], "", 0, {}, Odd()):
            self.check_fails(Keep(path()), InvalidDoors, "position", None, ("cross", 2, doors))
        self.check_fails(Keep(path()), InvalidDoors, "position", 1, ("cross", 2, ((0, 1, "c"), (0, 1, "c"))))
        self.check_fails(Keep(path()), InvalidDoors, "position", 0, ("cross", 2, ((False, 1, "c"),)))
        self.check_fails(Keep(path()), InvalidDoors, "position", 0, ("cross", 2, ([0, 1, "c"],)))
        self.check_fails(Keep(path()), Unreachable, "hall", 1, ("cross", 2, ()))
        self.check_fails(Keep(path()), Unreachable, "hall", 2, ("cross", 3, ((0, 1, "a"),)))

    def test_shared_colours(self):
        self.check_fails(Keep(path()), SharedColour, "colour", "a", ("cross", 2, ((0, 1, "a"),)))
        self.check_fails(Keep(path()), SharedColour, "colour", "b", ("cross", 2, ((0, 1, "b"), (0, 1, "c"))))
        self.check_fails(Keep(path()), SharedColour, "colour", "a", ("cross", 3, ((0, 1, "b"), (1, 2, "a"))))
        names = House(3, ((0, 1, "b"), (1, 2, "aa")))
        self.check_fails(Keep(names), SharedColour, "colour", "aa", ("cross", 3, ((0, 1, "b"), (1, 2, "aa"))))

    def test_limits(self):
        self.check_fails(Keep(line(33)), TooManyHalls, "many", 66, ("cross", 2, ((0, 1, "c"),)))
        self.check_fails(Keep(cube(6)), TooManyHalls, "many", 64 * 64, ("cross", 64, tuple(
            (hall, hall + 1, "yz"[hall % 2]) for hall in range(63))))
        self.check_fails(Keep(sixteen()), TooManyColours, "many", 17, ("cross", 2, ((0, 1, "q"),)))

    def test_order_of_errors(self):
        many = tuple((0, 1, colour) for colour in (*SIXTEEN[1:], "q"))
        self.check_fails(Keep(line(33)), SharedColour, "colour", "b", ("cross", 2, many))
        more = tuple((0, 1, colour * 2) for colour in SIXTEEN)
        self.check_fails(Keep(line(33)), TooManyHalls, "many", 66, ("cross", 2, more))
        self.check_fails(Keep(line(32)), TooManyColours, "many", 18, ("cross", 2, more))


class Drop(KeepCase):
    def test_ordinary(self):
        for hall, goal in enumerate((0, 0, 1, 1)):
            self.check_does(square(), hall, ("drop", ("a",)), 2, ((0, 1, "b"),), goal)
        for hall, goal in enumerate((0, 1, 0, 1)):
            self.check_does(square(), hall, ("drop", ("b",)), 2, ((0, 1, "a"),), goal)

    def test_the_last_lot(self):
        self.check_does(path(), 2, ("drop", ("a", "b")), 1, (), 0)
        self.check_does(sixteen(), 1, ("drop", SIXTEEN), 1, (), 0)

    def test_the_same_components_in_the_other_lots(self):
        for house in [cube(3), *random_crosses(16)]:
            split = lots(house)
            table = addresses(house, split)
            for place, lot in enumerate(split):
                rest = tuple(colour for colour in house.colours() if colour not in lot)
                smaller, halls = part(house, rest)
                for hall in range(0, house.halls, 3):
                    others = [at for at in range(len(split)) if at != place]
                    goals = [number for number, goal in enumerate(halls)
                             if all(table[goal][at] == table[hall][at] for at in others)]
                    self.assertEqual(len(goals), 1)
                    self.check_does(house, hall, ("drop", lot), smaller.halls, smaller.doors, goals[0])

    def test_a_cross_is_taken_back_by_drops(self):
        for at, house in enumerate(random_houses(12)):
            for hall in range(house.halls):
                keep = self.keep_in(house, hall)
                keep.do(("cross", 4, ((0, 1, "w"), (0, 2, "x"), (1, 3, "x"), (2, 3, "w"))))
                keep.do_all((("push", "x"), ("push", "w"), ("drop", ("w",)), ("drop", ("x",))))
                self.check_house(keep.current_house(), house.halls, house.doors)
                self.check_same(keep.walker(), hall)

    def test_unknown_lots(self):
        for lot in ((), ("b", "a"), ("a",), ("c",), ("a", "b", "c"), ["a", "b"], "ab", "a", None, 0, True, ("a", None),
                    (("a", "b"),), ("a", ["b"]), {}, Odd(), (Odd(),), ("a", Odd())):
            self.check_fails(Keep(path()), UnknownLot, "lot", lot, ("drop", lot))
        self.check_fails(Keep(square()), UnknownLot, "lot", ("a", "b"), ("drop", ("a", "b")))
        for lot in ((), ("a",), None):
            self.check_fails(Keep(House(1)), UnknownLot, "lot", lot, ("drop", lot))


class Do(KeepCase):
    def test_examples(self):
        keep = Keep(path())
        done = keep.do(("push", "a"))
        keep.do(("cross", 2, ((0, 1, "c"),)))
        self.check_same([done, keep.walker(), keep.current_house().halls, len(keep)], [None, 2, 6, 2])
        self.check_fails(Keep(path()), UnknownLot, "lot", ("a",), ("drop", ("a",)))
        self.check_raises(InvalidDeed, "position", 0, Keep(House(1)).do, ("push",))

    def test_each_word_with_an_element_more_and_less(self):
        keep = Keep(square())
        for deed in DEEDS:
            for wrong in (deed[:-1], (*deed, "a"), (*deed, None), deed[:1], (*deed, *deed), list(deed)):
                self.check_raises(InvalidDeed, "position", 0, keep.do, wrong)
        self.assertEqual(answers(keep), answers(Keep(square())))

    def test_no_deed(self):
        keep = Keep(path())
        for deed in (None, True, 0, "", "push", "push a", (), ("push a",), [], ["push", "a"], {}, {"push": "a"}, Odd(),
                     (Odd(), "a"), (None, "a"), (0, "a"), ("Push", "a"), ("walk", "a"), ("undo",), ("", "a"),
                     (("push",), "a"), (["push"], "a"), ("push", "a", "b"), ("drop",), ("push",) * 3, path(), keep):
            self.check_raises(InvalidDeed, "position", 0, keep.do, deed)
        self.assertEqual(answers(keep), answers(Keep(path())))

    def test_the_number_of_elements_is_checked_whatever_they_are(self):
        keep = Keep(path())
        self.check_raises(InvalidDeed, "position", 0, keep.do, ("open", Odd(), Odd()))
        self.check_raises(InvalidDeed, "position", 0, keep.do, ("cross", Odd(), Odd(), Odd()))

    def test_the_log_has_the_deeds(self):
        keep = Keep(square())
        deeds = (("push", "a"), ("open", 0, 3, "c"), ("shut", 0, 3, "c"), ("recolour", "a", "z"),
                 ("cross", 2, ((0, 1, "c"),)), ("drop", ("b",)))
        for at, deed in enumerate(deeds):
            self.assertIsNone(keep.do(deed=deed))
            self.check_same(keep.deed_log(), deeds[:at + 1])


class DoAll(KeepCase):
    def test_examples(self):
        keep = Keep(square())
        self.assertIsNone(keep.do_all((("push", "a"), ("push", "b"), ("drop", ("a",)))))
        self.check_same([keep.walker(), keep.current_house().doors, keep.deed_log()[1]],
                        [1, ((0, 1, "b"),), ("push", "b")])
        deeds = (("shut", 0, 1, "a"), ("push",))
        self.check_raises(InvalidDeed, "position", 1, Keep(edge("a")).do_all, deeds)

    def test_no_deeds(self):
        keep = Keep(path())
        self.assertIsNone(keep.do_all(()))
        self.assertIsNone(keep.do_all(deeds=(), watch=None))
        self.assertEqual(answers(keep), answers(Keep(path())))

    def test_as_one_by_one(self):
        deeds = (("push", "a"), ("open", 0, 3, "c"), ("cross", 2, ((0, 1, "d"),)), ("recolour", "c", "cc"))
        one, other = Keep(square()), Keep(square())
        for deed in deeds:
            one.do(deed)
        other.do_all(deeds)
        self.assertEqual(answers(one), answers(other))
        other.do_all(deeds=(("push", "b"), ("push", "cc")))
        self.check_same(len(other), 6)

    def test_not_a_tuple(self):
        keep = Keep(path())
        for deeds in (None, True, 0, "", "push", [], [("push", "a")], {}, Odd(), iter(())):
            self.check_raises(InvalidDeed, "position", None, keep.do_all, deeds)
            self.check_raises(InvalidDeed, "position", None, replay, path(), deeds)
        self.check_raises(InvalidDeed, "position", 0, keep.do_all, ("push", "a"))
        self.assertEqual(answers(keep), answers(Keep(path())))

    def test_all_deeds_are_looked_at_first(self):
        keep = Keep(path())
        wrong = ("shut", 0, 1, "a")
        for position in range(4):
            for deed in (None, ("push",), ["push", "a"], (), Odd()):
                deeds = [wrong] * 4
                deeds[position] = deed
                self.check_raises(InvalidDeed, "position", position, keep.do_all, tuple(deeds))
                self.check_raises(InvalidDeed, "position", position, replay, path(), (*deeds, None))
        self.check_raises(Unreachable, "hall", 1, keep.do_all, (wrong,) * 4)
        self.assertEqual(answers(keep), answers(Keep(path())))

    def test_an_error_in_the_middle(self):
        keep = Keep(square())
        keep.do_all((("push", "a"), ("push", "b")))
        before = answers(keep)
        deeds = (("open", 0, 3, "c"), ("push", "c"), ("drop", ("a",)), ("push", "B"))
        self.check_raises(UnknownLot, "lot", ("a",), keep.do_all, deeds)
        self.assertEqual(answers(keep), before)
        self.assertIs(keep.busy, False)
        keep.do_all(deeds[:2])
        self.check_same(keep.walker(), 0)
        keep.undo()
        keep.undo()
        self.assertEqual(answers(keep), before)

    def test_a_deed_that_fits_only_after_another_one(self):
        keep = Keep(path())
        keep.do_all((("open", 0, 2, "c"), ("shut", 0, 1, "a"), ("recolour", "c", "a")))
        self.check_house(keep.current_house(), 3, ((0, 2, "a"), (1, 2, "b")))


class Watch(KeepCase):
    deeds = (("push", "a"), ("open", 0, 3, "c"), ("push", "z"), ("cross", 2, ((0, 1, "d"),)))

    def test_it_is_called_after_each_deed(self):
        keep, seen = Keep(square()), []
        keep.do(("push", "b"))

        def watch(given, position):
            self.assertIs(given, keep)
            seen.append((kinds(position), position, answers(keep)))

        self.assertIsNone(keep.do_all(self.deeds, watch=watch))
        self.assertEqual([row[:2] for row in seen], [(int, 0), (int, 1), (int, 2), (int, 3)])
        other = Keep(square())
        other.do(("push", "b"))
        for deed, row in zip(self.deeds, seen):
            other.do(deed)
            expected = list(answers(other))
            expected[5] = True
            self.assertEqual(row[2], tuple(expected))
        self.assertEqual(answers(keep), answers(other))

    def test_busy(self):
        keep, seen = Keep(square()), []
        self.assertIs(keep.busy, False)
        keep.do_all(self.deeds, watch=lambda given, position: seen.append(given.busy))
        self.assertEqual(kinds(seen), kinds([True] * 4))
        self.assertEqual(seen, [True] * 4)
        self.assertIs(keep.busy, False)

    def test_no_deed_no_call(self):
        Keep(path()).do_all((), watch=lambda keep, position: self.fail("called"))

    def test_no_call_for_what_is_not_a_deed(self):
        keep = Keep(path())
        with self.assertRaises(InvalidDeed):
            keep.do_all((("push", "a"), None), watch=lambda given, position: self.fail("called"))
        self.assertIs(keep.busy, False)

    def test_it_is_not_called_after_the_deed_that_fails(self):
        keep, seen = Keep(path()), []
        with self.assertRaises(InvalidColour):
            keep.do_all((("push", "a"), ("push", "A"), ("push", "b")), watch=lambda given, position: seen.append(position))
        self.assertEqual(seen, [0])
        self.assertEqual(answers(keep), answers(Keep(path())))

    def test_an_exception_of_its_own(self):
        for kind in (Stop, KeyError, StopIteration, InvalidColour, GeneratorExit):
            for last in range(4):
                keep = Keep(square())
                keep.do(("push", "b"))
                before, error = answers(keep), kind("told")

                def watch(given, position):
                    if position == last:
                        raise error

                with self.assertRaises(kind) as caught:
                    keep.do_all(self.deeds, watch=watch)
                self.assertIs(caught.exception, error)
                self.assertEqual(answers(keep), before)
                self.assertIs(keep.busy, False)
                keep.undo()
                self.assertEqual(answers(keep), answers(Keep(square())))

    def test_a_watch_function_that_only_takes_names_or_positions(self):
        seen = []
        Keep(path()).do_all((("push", "a"),), watch=lambda *args: seen.append(args[1:]))
        self.assertEqual(seen, [(0,)])

    def test_another_keep_may_change(self):
        one, other = Keep(path()), Keep(path())
        one.do_all((("push", "a"), ("push", "b")), watch=lambda given, position: other.do(given.deed_log()[-1]))
        self.assertEqual(answers(one), answers(other))

    def test_by_name_only(self):
        with self.assertRaises(TypeError):
            Keep(path()).do_all((), None)


class Undo(KeepCase):
    def test_examples(self):
        keep = Keep(path())
        keep.do_all((("push", "a"), ("open", 0, 2, "c")))
        undone = keep.undo()
        self.check_same([undone, keep.walker(), keep.current_house().colours(), keep.deed_log()],
                        [None, 1, ("a", "b"), (("push", "a"),)])
        self.check_nothing(Keep(House(1)))

    def check_nothing(self, keep):
        before = answers(keep)
        with self.assertRaises(NothingToUndo) as caught:
            keep.undo()
        self.assertEqual(vars(caught.exception), {})
        self.assertIs(type(caught.exception), NothingToUndo)
        self.assertEqual(answers(keep), before)

    def test_an_empty_log(self):
        keep = Keep(path())
        self.check_nothing(keep)
        keep.do(("push", "a"))
        keep.undo()
        self.check_nothing(keep)

    def test_deeds_of_one_call_are_taken_back_one_by_one(self):
        keep = Keep(square())
        seen = [answers(keep)]
        deeds = (("push", "a"), ("open", 0, 3, "c"), ("drop", ("a", "b", "c")), ("cross", 3, path().doors), ("push", "a"))
        for many in range(1, len(deeds) + 1):
            seen.append(answers(replay(square(), deeds[:many])))
        keep.do_all(deeds)
        for expected in seen[::-1]:
            self.assertEqual(answers(keep), expected)
            if len(keep) > 0:
                self.assertIsNone(keep.undo())
        self.check_nothing(keep)

    def test_a_deed_that_changes_nothing_is_in_the_log(self):
        keep = Keep(House(1))
        keep.do(("push", "a"))
        keep.do(("cross", 1, ()))
        self.check_same(len(keep), 2)
        keep.undo()
        self.check_same(keep.deed_log(), (("push", "a"),))

    def test_results_stay_as_they_are(self):
        keep = Keep(square())
        keep.do(("push", "a"))
        house, log = keep.current_house(), keep.deed_log()
        kept = told((house, log))
        keep.do_all((("open", 0, 3, "c"), ("push", "c")))
        keep.undo()
        self.assertEqual(told((house, log)), kept)


class LotChanges(KeepCase):
    def test_example(self):
        keep = Keep(square())
        keep.do(("open", 0, 3, "c"))
        self.check_same(keep.lot_changes(), ((("a", "b"),), ()))
        keep.do(("shut", 0, 3, "c"))
        self.check_same(keep.lot_changes(), ((), (("a", "b"),)))

    def test_an_empty_log(self):
        self.check_same(Keep(square()).lot_changes(), ((), ()))

    def test_after_an_undo(self):
        keep = Keep(square())
        keep.do_all((("open", 0, 3, "c"), ("push", "c"), ("shut", 0, 3, "c")))
        self.check_same(keep.lot_changes(), ((), (("a", "b"),)))
        keep.undo()
        self.check_same(keep.lot_changes(), ((), ()))
        keep.undo()
        self.check_same(keep.lot_changes(), ((("a", "b"),), ()))
        keep.undo()
        self.check_same(keep.lot_changes(), ((), ()))

    def test_several_pairs(self):
        keep = Keep(cube(3))
        keep.do(("open", 0, 7, "d"))
        self.check_same(keep.lot_changes(), ((("a", "b"), ("a", "c"), ("b", "c")), ()))
        keep.do(("shut", 0, 7, "d"))
        self.check_same(keep.lot_changes(), ((), (("a", "b"), ("a", "c"), ("b", "c"))))

    def test_colours_that_only_one_house_has(self):
        keep = Keep(square())
        keep.do(("recolour", "a", "z"))
        self.check_same(keep.lot_changes(), ((), ()))
        keep.do(("cross", 3, ((0, 1, "k"), (1, 2, "l"))))
        self.check_same(keep.lot_changes(), ((), ()))
        keep.do(("drop", ("b",)))
        self.check_same(keep.lot_changes(), ((), ()))

    def test_a_colour_that_goes_and_frees_others(self):
        house = House(4, (*SQUARE_DOORS[:1], (0, 1, "c"), *SQUARE_DOORS[1:]))
        keep = Keep(house)
        keep.do(("shut", 0, 1, "c"))
        self.check_same(keep.lot_changes(), ((), (("a", "b"),)))


class Answers(KeepCase):
    def test_examples(self):
        keep = Keep(square())
        self.check_same([keep.current_lots(), keep.deed_log(), keep.busy], [(("a",), ("b",)), (), False])

    def test_current_lots(self):
        for house in (House(1), path(), four(), cube(6), *random_crosses(6)):
            self.check_same(Keep(house).current_lots(), lots(house))

    def test_asking_changes_nothing(self):
        keep = Keep(square())
        keep.do_all((("push", "a"), ("open", 0, 3, "c")))
        before = copy.deepcopy(told(list(vars(keep).items())))
        first = answers(keep)
        self.assertEqual(answers(keep), first)
        self.assertTrue(keep == keep and not keep != keep)
        self.assertEqual(told(list(vars(keep).items())), before)

    def test_the_house_and_the_deeds_stay(self):
        house = square()
        before = copy.deepcopy(told(house))
        keep = Keep(house)
        deeds = (("push", "a"), ("open", 0, 3, "c"), ("shut", 0, 1, "a"), ("recolour", "b", "x"))
        kept = copy.deepcopy(deeds)
        keep.do_all(deeds)
        self.assertEqual(told(house), before)
        self.assertEqual(deeds, kept)


class RandomDeeds(KeepCase):
    def test_any_deeds(self):
        """Undoing restores the house and the walker; answers depend only on both; the log can be done again."""
        for seed in range(25):
            source = random.Random(seed)
            house = random_house(seed, 2 + seed % 5, "abc", 3)
            keep = Keep(house)
            states = [answers(keep)]
            for step in range(25):
                deed = random_deed(keep, source)
                before = answers(keep)
                try:
                    keep.do(deed)
                except (ValueError, RuntimeError, ArithmeticError):
                    self.assertEqual(answers(keep), before)
                    continue
                states.append(answers(keep))
                if source.random() < 0.2:
                    keep.undo()
                    states.pop()
                    self.assertEqual(answers(keep), states[-1])
            again = replay(house, keep.deed_log())
            self.assertEqual(answers(again), answers(keep))
            self.assertTrue(again == keep)
            fresh = self.keep_in(keep.current_house(), keep.walker())
            self.assertEqual(present(fresh), present(keep))
            self.assertTrue(fresh == keep)
            while len(keep) > 0:
                self.assertEqual(answers(keep), states.pop())
                keep.undo()
            self.assertEqual(answers(keep), answers(Keep(house)))


class Replay(KeepCase):
    def test_example(self):
        deeds = (("push", "a"), ("push", "b"))
        self.check_same(repr(replay(path(), deeds)), "Keep(3 halls, walker in 2)")
        self.check_same(repr(replay(house=path(), deeds=deeds)), "Keep(3 halls, walker in 2)")

    def test_a_new_keep(self):
        house = square()
        one, other = replay(house, (("push", "a"),)), replay(house, (("push", "a"),))
        self.assertIs(type(one), Keep)
        self.assertIsNot(one, other)
        self.assertEqual(answers(one), answers(other))
        one.do(("push", "a"))
        self.assertNotEqual(one, other)
        self.assertEqual(answers(replay(house, ())), answers(Keep(house)))

    def test_wrong_houses(self):
        for wrong in WRONG_HOUSES:
            self.check_raises(InvalidHouse, "house", wrong, replay, wrong, (("push", "a"),))
            self.check_raises(InvalidHouse, "house", wrong, replay, wrong, None)

    def test_order_of_errors(self):
        self.check_order(
            replay, (path(), 3, InvalidHouse, "house", 3), ((), [], InvalidDeed, "position", None))
        self.check_raises(InvalidDeed, "position", 1, replay, path(), (("push", "A"), ("push",)))
        self.check_raises(InvalidColour, "colour", "A", replay, path(), (("push", "A"), ("drop", ())))
