"""Point 20."""

from doorlots.errors import InvalidText
from doorlots.houses import House
from doorlots.texts import read_house
from tests.helper import (
    NOT_COLOURS, PATH_DOORS, SIXTEEN, SQUARE_DOORS, Case, Odd, cube, door_choices, line, random_houses, sixteen,
    small_houses,
)

PATH_TEXT = "house 3\n0 1 a\n1 2 b"
WRONG_NUMBERS = (
    "", "+1", "-1", "-0", "+0", "01", "00", "001", "1.0", "1e0", "0x1", "1_0", "one", "a", "1a", "a1", "True", "False",
    "None", "64", "65", "100", "1" * 31, "1" * 32, "1" * 4000, "0" * 4000, "9" * 5000,
)


class Reading(Case):
    def check_text(self, line, text):
        self.check_raises(InvalidText, "line", line, read_house, text)

    def test_examples(self):
        self.check_same(read_house(PATH_TEXT).doors, ((0, 1, "a"), (1, 2, "b")))
        self.check_same(str(House(2, ((0, 1, "red"),))), "house 2\n0 1 red")
        self.check_text(2, "house 3\n0 1 a")
        self.check_text(2, "house 3\n0 1 a\n0 1 a")

    def test_ordinary_texts(self):
        self.check_gives_house(3, PATH_DOORS, read_house, PATH_TEXT)
        self.check_gives_house(1, (), read_house, "house 1")
        self.check_gives_house(2, ((0, 1, "purple"),), read_house, "house 2\n0 1 purple")
        self.check_gives_house(2, ((0, 1, "blue"), (0, 1, "red")), read_house, "house 2\n0 1 blue\n0 1 red")
        self.check_gives_house(4, SQUARE_DOORS, read_house, "house 4\n0 1 a\n0 2 b\n1 3 b\n2 3 a")

    def test_the_text_of_a_house_gives_the_house(self):
        houses = [House(1), line(64), cube(6), sixteen(), *small_houses(), *random_houses(40)]
        for house in houses:
            text = str(house)
            self.check_gives_house(house.halls, house.doors, read_house, text)
            self.check_same(str(read_house(text)), text)

    def test_not_a_string(self):
        for text in (None, True, False, 0, 1, b"house 1", (), ("house 1",), [], ["house 1"], {}, Odd(), House(1)):
            self.check_text(0, text)


class FirstLine(Case):
    def check_first(self, first):
        for rest in ("", "\n", "\n0 1 a", "\n0 1 a\n1 2 b", "\n0 1 a\n0 1 a"):
            self.check_raises(InvalidText, "line", 0, read_house, first + rest)

    def test_wrong_first_lines(self):
        wrong = (
            "", " ", "house", "house ", " house 3", "house 3 ", "house  3", "house 3 3", "House 3", "HOUSE 3", "hous 3",
            "houses 3", "house3", "3", "3 house", "house a", "house three", "house,3", "house:3", "house\t3", "house 3\r",
            "0 1 a", "0 1", "#house 3",
        )
        for first in wrong:
            with self.subTest(first):
                self.check_first(first)

    def test_wrong_numbers(self):
        for number in ("0", *WRONG_NUMBERS):
            if number != "64":
                with self.subTest(number[:40]):
                    self.check_first("house " + number)

    def test_one_and_sixty_four_halls(self):
        self.check_gives_house(1, (), read_house, "house 1")
        self.check_gives_house(64, line(64).doors, read_house, str(line(64)))
        self.check_first("house 65")
        self.check_raises(InvalidText, "line", 0, read_house, str(line(64)).replace("house 64", "house 65"))

    def test_a_first_line_that_is_missing_or_repeated(self):
        self.check_raises(InvalidText, "line", 0, read_house, "0 1 a\n1 2 b")
        self.check_raises(InvalidText, "line", 0, read_house, "\nhouse 1")
        self.check_raises(InvalidText, "line", 1, read_house, "house 1\nhouse 1")
        self.check_raises(InvalidText, "line", 2, read_house, "house 3\n0 1 a\nhouse 3\n1 2 b")


class DoorLines(Case):
    def check_door(self, door):
        """The line is wrong as the only door, between two doors, and as the last one."""
        self.check_raises(InvalidText, "line", 1, read_house, "house 4\n" + door)
        self.check_raises(InvalidText, "line", 1, read_house, f"house 4\n{door}\n0 1 a\n1 2 b\n2 3 a")
        self.check_raises(InvalidText, "line", 2, read_house, f"house 4\n0 1 a\n{door}\n1 2 b\n2 3 a")
        self.check_raises(InvalidText, "line", 4, read_house, f"house 4\n0 1 a\n1 2 b\n2 3 a\n{door}")

    def test_wrong_spaces(self):
        wrong = (
            "", " ", "  ", " 0 2 c", "0 2 c ", "0  2 c", "0 2  c", "0 2c", "02 c", "02c", "0\t2\tc", "0 2 c d", "0 2",
            "0", "c", "0 c", "0 2 c 0", "0,2,c", "(0, 2, c)", "0 2 c\t", "0-2 c", "0 2 'c'", "house 4",
        )
        for door in wrong:
            with self.subTest(door):
                self.check_door(door)

    def test_wrong_numbers(self):
        for number in WRONG_NUMBERS:
            with self.subTest(number[:40]):
                if number != "64":
                    self.check_door(f"{number} 2 c")
                self.check_door(f"0 {number} c")
        self.check_door("00 2 c")
        self.check_door("0 02 c")
        self.check_door("0 +2 c")

    def test_wrong_colours(self):
        for colour in NOT_COLOURS:
            if isinstance(colour, str) and "\n" not in colour:
                with self.subTest(colour[:40]):
                    self.check_door("0 2 " + colour)

    def test_wrong_doors(self):
        for door in ("2 0 c", "0 0 c", "2 2 c", "0 4 c", "4 5 c", "3 4 a"):
            with self.subTest(door):
                self.check_door(door)

    def test_the_order_and_the_colours_of_doors(self):
        self.check_raises(InvalidText, "line", 2, read_house, "house 3\n1 2 b\n0 1 a")
        self.check_raises(InvalidText, "line", 2, read_house, "house 2\n0 1 b\n0 1 a")
        self.check_raises(InvalidText, "line", 2, read_house, "house 3\n0 1 a\n0 2 a")
        self.check_raises(InvalidText, "line", 3, read_house, "house 4\n0 1 a\n1 2 b\n2 3 b")
        self.check_raises(InvalidText, "line", 3, read_house, "house 3\n0 1 a\n1 2 b\n1 2 b")
        self.check_raises(InvalidText, "line", 3, read_house, "house 3\n0 1 a\n1 2 b\n0 1 a")

    def test_sixteen_and_seventeen_colours(self):
        text = "house 2\n" + "\n".join("0 1 " + colour for colour in SIXTEEN)
        self.check_gives_house(2, sixteen().doors, read_house, text)
        self.check_raises(InvalidText, "line", 17, read_house, text + "\n0 1 q")

    def test_ten_is_after_nine(self):
        doors = tuple((hall, hall + 1, "ab"[hall % 2]) for hall in range(11))
        self.check_gives_house(12, doors, read_house, str(House(12, doors)))
        as_strings = "\n".join(["house 12", *sorted(str(House(12, doors)).split("\n")[1:])])
        self.check_raises(InvalidText, "line", 4, read_house, as_strings)

    def test_empty_lines(self):
        self.check_raises(InvalidText, "line", 1, read_house, "house 1\n")
        self.check_raises(InvalidText, "line", 3, read_house, PATH_TEXT + "\n")
        self.check_raises(InvalidText, "line", 3, read_house, PATH_TEXT + "\n\n")
        self.check_raises(InvalidText, "line", 2, read_house, "house 3\n0 1 a\n\n1 2 b")
        self.check_raises(InvalidText, "line", 1, read_house, "house 3\n\n0 1 a\n1 2 b")
        self.check_raises(InvalidText, "line", 0, read_house, "\n")
        self.check_raises(InvalidText, "line", 0, read_house, "")

    def test_the_first_wrong_line_counts(self):
        self.check_raises(InvalidText, "line", 2, read_house, "house 4\n0 1 a\n0 1 a\nx")
        self.check_raises(InvalidText, "line", 2, read_house, "house 4\n0 1 a\nx\n0 1 a")
        self.check_raises(InvalidText, "line", 0, read_house, "house 0\nx")
        self.check_raises(InvalidText, "line", 3, read_house, "house 4\n0 1 a\n1 2 b\n0 1 c\n")


class UnreachableHalls(Case):
    def test_the_number_of_lines(self):
        self.check_raises(InvalidText, "line", 1, read_house, "house 2")
        self.check_raises(InvalidText, "line", 1, read_house, "house 64")
        self.check_raises(InvalidText, "line", 3, read_house, "house 4\n0 1 a\n2 3 a")
        self.check_raises(InvalidText, "line", 63, read_house, str(line(64))[:-len("\n62 63 a")])

    def test_a_wrong_line_comes_before(self):
        self.check_raises(InvalidText, "line", 1, read_house, "house 2\n")
        self.check_raises(InvalidText, "line", 2, read_house, "house 5\n0 1 a\n1 2 a\n3 4 a")

    def test_all_choices_of_doors(self):
        """The line that is reported is the one with which House itself fails."""
        for halls, colours in ((3, "ab"), (4, "a")):
            for doors in door_choices(halls, colours):
                lines = [f"house {halls}", *[f"{low} {high} {colour}" for low, high, colour in doors]]
                self.check_lines(halls, doors, lines)

    def check_lines(self, halls, doors, lines):
        try:
            House(halls, doors)
        except ValueError as error:
            self.check_raises(InvalidText, "line", error.position + 1, read_house, "\n".join(lines))
        except RuntimeError:
            self.check_raises(InvalidText, "line", len(lines), read_house, "\n".join(lines))
        else:
            self.check_gives_house(halls, doors, read_house, "\n".join(lines))
