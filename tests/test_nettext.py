"""Point 4: nets as texts."""

import unittest

from tests.support import BRAESS, INTEGER_WRONGS, Raising, SMALL, TWENTY_ONE, samples
from tollroads.errors import BadNet, InvalidText, NotText
from tollroads.nettext import read_net, write_net

ONE_ROAD = (2, ((0, 1, 2, 5),))
ROAD_TEXT = " | 0 1 2 5"

PLACES = (
    ("", 0), (" ", 1), ("   ", 3), ("x", 0), (" x", 1), ("|", 0), ("2", 1), ("2 ", 2), ("2x", 1), ("-2", 0),
    ("2 |", 3), ("2 | ", 4), ("2 | 0", 5), ("2 | 0 1", 7), ("2 | 0 1 2", 9), ("2 | 0 1 2 ", 10),
    ("2 | 0 1 2 |", 10), ("2 | 0 1 2 5 |", 13), ("2 | 0 1 2 5 |  ", 15), ("2 | 0 1 2 5 | 0 1 2", 19),
    ("2 || 0 1 2 5", 3), ("2 | | 0 1 2 5", 4), ("2 | 0 | 1 2 5", 6), ("2 | 0 1 2 5 || 0 1 2 5", 13),
    ("1 | 0 1 2 5", 0), ("0 | 0 1 2 5", 0), ("7 | 0 1 2 5", 0), ("  7 | 0 1 2 5", 2), ("20 | 0 1 2 5", 0),
    ("02 | 0 1 2 5", 0), ("002", 0), ("00", 0), ("2 2 | 0 1 2 5", 2), ("22 | 0 1 2 5", 0), ("7x", 0), ("03x", 0),
    ("2 | 00 1 2 5", 4), ("2 | 0 01 2 5", 6), ("2 | 0 1 02 5", 8), ("2 | 0 1 2 05", 10), ("2 | 0 1 2 00", 10),
    ("2 | 0 1 00 5", 8), ("2 | 01 2 5", 4), ("2 | 0 12 5", 6), ("2 | 0 1 2 005", 10), ("2 | 0 1 000 5", 8),
    ("2 | 0 0 2 5", 6), ("2 | 1 1 2 5", 6), ("2 | 2 1 2 5", 4), ("2 | 1 2 2 5", 6), ("3 | 0 3 2 5", 6),
    ("6 | 6 1 2 5", 4), ("6 | 5 6 2 5", 6), ("6 | 10 1 2 5", 4), ("2 | 9 x", 4), ("2 | 0 0x", 6),
    ("2 | 0 1 101 1", 8), ("2 | 0 1 200 1", 8), ("2 | 0 1 1000 1", 8), ("2 | 0 1 5 1001", 10),
    ("2 | 0 1 5 2000", 10), ("2 | 0 1 5 10000", 10), ("2 | 0 1 101x", 8), ("2 | 0 1 2 1001|", 10),
    ("2 | 0 1 -1 5", 8), ("2 | 0 1 +1 5", 8), ("2 | 0 1 2.5 5", 9), ("2 | 0 1 2 5x", 11), ("2 | 0 1 2 5 x", 12),
    ("2 | 0 1 2 5 6", 12), ("2 | 0 1 2 5 0", 12), ("2 | 0 1 2 5 99999", 12), ("2 | 0 1 2x5", 9),
    ("2 | 0 1 2, 5", 9), ("2\t| 0 1 2 5", 1), ("2 | 0 1 2 5\n", 11), ("\n2 | 0 1 2 5", 0), ("2 |\r0 1 2 5", 3),
    ("2 | 0 1\u00a02 5", 7), ("2 | 0 1 2 \u0663", 10), ("2 | 0 1 2 5\u0663", 11), ("\u0662 | 0 1 2 5", 0),
    ("2 | 0 1 2 \u00b2", 10), ("2 | 0 1 2 " + "9" * 5000, 10), ("2 | 0 1 " + "1" * 5000 + " 5", 8),
    ("2 | 0 1 2 " + "0" * 5000, 10), ("9" * 5000, 0), ("2 | 0 1 2 5 | 1 0 2 5 | 0 0 1 1", 26), ("2 : 0 1 2 5", 2),
    ("2" + ROAD_TEXT * 10 + " |", 102), ("2" + ROAD_TEXT * 10 + "|", 101), ("2" + ROAD_TEXT * 11, 102),
    ("2" + ROAD_TEXT * 10 + "   | x", 104), ("2" + ROAD_TEXT * 10 + " 0", 102), ("2" + ROAD_TEXT * 10 + "x", 101),
    ("2" + ROAD_TEXT * 9 + " |", 93), ("2" + ROAD_TEXT * 9 + " | 0 1 2 5 x", 102),
)


class WriteTest(Raising, unittest.TestCase):
    def test_known_texts(self):
        self.assert_same(write_net(ONE_ROAD), "2 | 0 1 2 5")
        self.assert_same(write_net((3, ((0, 1, 2, 5), (1, 2, 0, 7)))), "3 | 0 1 2 5 | 1 2 0 7")
        self.assert_same(write_net((6, ((5, 0, 100, 1000),))), "6 | 5 0 100 1000")
        self.assert_same(write_net((2, ((0, 1, 2, 5),) * 10)), "2" + ROAD_TEXT * 10)

    def test_no_bound_on_ways(self):
        self.assert_same(read_net(write_net(TWENTY_ONE)), TWENTY_ONE)

    def test_wrong_nets(self):
        for net in (*INTEGER_WRONGS, "2 | 0 1 2 5", (1, ((0, 1, 2, 5),)), (2, ())):
            self.assert_raises(BadNet, {"index": None}, write_net, net)
        self.assert_raises(BadNet, {"index": 1}, write_net, (2, ((0, 1, 2, 5), (0, 1, 101, 5))))


class ReadTest(Raising, unittest.TestCase):
    def test_spaces(self):
        for text in ("2|0 1 2 5", "2 | 0 1 2 5", "   2   |   0   1   2   5   ", "2| 0 1 2 5 ", " 2 |0 1 2 5"):
            self.assert_same(read_net(text), ONE_ROAD)
        self.assert_same(read_net("3|0 1 2 5|1 2 0 7"), (3, ((0, 1, 2, 5), (1, 2, 0, 7))))

    def test_bounds(self):
        self.assert_same(read_net("2 | 0 1 100 1000"), (2, ((0, 1, 100, 1000),)))
        self.assert_same(read_net("2 | 1 0 0 0"), (2, ((1, 0, 0, 0),)))
        self.assert_same(read_net("6 | 5 4 10 100"), (6, ((5, 4, 10, 100),)))
        self.assert_same(read_net("2" + ROAD_TEXT * 10), (2, ((0, 1, 2, 5),) * 10))
        self.assert_same(read_net("2" + ROAD_TEXT * 10 + "   "), (2, ((0, 1, 2, 5),) * 10))

    def test_each_size(self):
        for size in range(2, 7):
            self.assert_same(read_net(f"{size} | 0 {size - 1} 2 5"), (size, ((0, size - 1, 2, 5),)))

    def test_both_ways(self):
        for net in (BRAESS, SMALL, *[net for net, _, _ in samples(2, 60)]):
            self.assert_same(read_net(write_net(net)), net)
            self.assert_same(write_net(read_net(write_net(net))), write_net(net))

    def test_places(self):
        for text, place in PLACES:
            with self.subTest(text=text[:40]):
                self.assert_raises(InvalidText, {"place": place}, read_net, text)

    def test_each_text_that_ends_too_early(self):
        # A text may end behind each digit of its last number, and nowhere else.
        text = "3 | 0 1 100 1000 | 1 2 0 7"
        for length in range(len(text)):
            if 13 <= length <= 17:
                base = 1000 if length == 17 else int(text[12:length])
                self.assert_same(read_net(text[:length]), (3, ((0, 1, 100, base),)))
            else:
                self.assert_raises(InvalidText, {"place": length}, read_net, text[:length])

    def test_each_strange_sign(self):
        text = "3 | 0 1 2 5 | 1 2 0 7"
        for sign in ("x", "\n", "\t", ".", "-", "#", ":", "\u0661"):
            for place in range(len(text)):
                self.assert_raises(InvalidText, {"place": place}, read_net, text[:place] + sign + text[place:])

    def test_values_that_are_no_text(self):
        for value in (0, 2, -1, True, False, None, (), ("2 | 0 1 2 5",), [], ["2 | 0 1 2 5"], {}, {"2": 1}, ONE_ROAD):
            self.assert_raises(NotText, {}, read_net, value)


if __name__ == "__main__":
    unittest.main()
