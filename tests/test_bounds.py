"""The constants in the head of the interface."""

from doorlots import bounds
from tests.helper import Case


class Bounds(Case):
    def test_constants(self):
        expected = {
            "MOST_HALLS": 64, "MOST_COLOURS": 16, "MOST_ROW": 400, "MOST_TIMES": 10 ** 30, "MOST_LENGTH": 200,
            "MOST_PARTS": 72,
        }
        for name, value in expected.items():
            with self.subTest(name):
                self.check_same(getattr(bounds, name), value)
