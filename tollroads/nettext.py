"""Nets as texts."""

from tollroads.errors import InvalidText
from tollroads.nets import check_net
from tollroads.readers import reader_of

MOST_ROADS = 10


def write_net(net):
    """Return the text of a net."""
    check_net(net)
    size, roads = net
    return " | ".join([str(size), *[" ".join([str(number) for number in road]) for road in roads]])


def read_road(reader, size):
    start, end = reader.read_joint(size)
    slope = reader.read_number(0, 100, None)
    base = reader.read_number(0, 1000, None)
    return (start, end, slope, base)


def read_net(text):
    """Return the net that a text names."""
    reader = reader_of(text)
    size = reader.read_number(2, 6, None)
    roads = []
    while len(roads) == 0 or not reader.at_end():
        if len(roads) == MOST_ROADS:
            raise InvalidText(reader.place)
        reader.read_sign("|")
        roads.append(read_road(reader, size))
    return (size, tuple(roads))
