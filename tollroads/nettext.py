"""Nets as texts."""

from tollroads.errors import InvalidText, NotText
from tollroads.nets import check_net

DIGITS = "0123456789"
MOST_ROADS = 10


def write_net(net):
    """Return the text of a net."""
    check_net(net)
    size, roads = net
    return " | ".join([str(size), *[" ".join([str(number) for number in road]) for road in roads]])


class Reader:
    """A place in a text, moved forward over numbers and bars."""

    def __init__(self, text):
        self.text = text
        self.place = 0

    def skip_spaces(self):
        while self.text[self.place:self.place + 1] == " ":
            self.place += 1

    def at_end(self):
        self.skip_spaces()
        return self.place == len(self.text)

    def read_bar(self):
        self.skip_spaces()
        if self.text[self.place:self.place + 1] != "|":
            raise InvalidText(self.place)
        self.place += 1

    def read_number(self, low, high, barred):
        """Return the number that comes next, from low to high and not the barred one."""
        self.skip_spaces()
        first = self.place
        while self.place < len(self.text) and self.text[self.place] in DIGITS:
            self.place += 1
        number = plain_number(self.text[first:self.place], high)
        if number is None or number < low or number == barred:
            raise InvalidText(first)
        return number


def plain_number(digits, high):
    """Return the number of a row of digits, None if it has none, a leading zero or is above high."""
    # The length is looked at first because Python refuses to turn very long rows into numbers.
    if digits == "" or len(digits) > len(str(high)):
        return None
    if digits[0] == "0" and digits != "0":
        return None
    number = int(digits)
    if number > high:
        return None
    return number


def read_road(reader, size):
    start = reader.read_number(0, size - 1, None)
    end = reader.read_number(0, size - 1, start)
    slope = reader.read_number(0, 100, None)
    base = reader.read_number(0, 1000, None)
    return (start, end, slope, base)


def read_net(text):
    """Return the net that a text names."""
    if not isinstance(text, str):
        raise NotText("the value is no string")
    reader = Reader(text)
    size = reader.read_number(2, 6, None)
    roads = []
    while len(roads) == 0 or not reader.at_end():
        if len(roads) == MOST_ROADS:
            raise InvalidText(reader.place)
        reader.read_bar()
        roads.append(read_road(reader, size))
    return (size, tuple(roads))
