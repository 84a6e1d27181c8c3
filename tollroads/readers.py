"""Texts that are read number by number and sign by sign."""

from tollroads.errors import InvalidText, NotText

DIGITS = "0123456789"


def reader_of(text):
    """Return a reader at the begin of a text."""
    if not isinstance(text, str):
        raise NotText("the value is no string")
    return Reader(text)


def plain_number(digits, high):
    """Return the number of a row of digits, None if it has none, a leading zero or is above high."""
    # The length is looked at first because Python refuses to turn very long rows into numbers.
    if digits == "" or len(digits) > len(str(high)):
        return None
    if digits[0] == "0" and digits != "0":
        return None
    number = int(digits)
    if number > high:
        return None
    return number


class Reader:
    """A place in a text, moved forward over numbers and signs."""

    def __init__(self, text):
        self.text = text
        self.place = 0

    def skip_spaces(self):
        while self.text[self.place:self.place + 1] == " ":
            self.place += 1

    def ahead(self):
        """Return the next character that is no space, an empty string at the end of the text."""
        self.skip_spaces()
        return self.text[self.place:self.place + 1]

    def at_end(self):
        return self.ahead() == ""

    def at_number(self):
        return not self.at_end() and self.ahead() in DIGITS

    def read_sign(self, sign):
        if self.ahead() != sign:
            raise InvalidText(self.place)
        self.place += 1

    def read_number(self, low, high, barred):
        """Return the number that comes next, from low to high and not the barred one."""
        self.skip_spaces()
        first = self.place
        while self.place < len(self.text) and self.text[self.place] in DIGITS:
            self.place += 1
        number = plain_number(self.text[first:self.place], high)
        if number is None or number < low or number == barred:
            raise InvalidText(first)
        return number

    def read_joint(self, size):
        """Return the two unlike nodes that come next."""
        start = self.read_number(0, size - 1, None)
        end = self.read_number(0, size - 1, start)
        return (start, end)
