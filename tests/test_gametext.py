"""Point 28: games as texts."""

import re
import unittest

from tests.gamesupport import (ALONE, BAD_GAMES, CROWD, FREE, MIXED, MORE_STATES, NINE_WAYS, ONE, PAIR, THOUSAND_STATES,
                               lanes_game, sample_games)
from tests.support import INTEGER_WRONGS, Raising, ways_of
from tollroads.errors import BadGame, InvalidText, NotText, RoadError
from tollroads.gametext import read_game, write_game
from tollroads.standings import standing_states

TEXT = "3 | 0 1 : 1 2 | 1 2 : 0 0 # 0 2 # 0 2"
SHORT = "2 | 0 1 : 7 # 0 1"
ROAD, PLAYER = " | 0 1 : 7", " # 0 1"
FOUR = "2 | 0 1 : 1 2 3 4" + PLAYER * 4

PLACES = (
    ("", 0), (" ", 1), ("   ", 3), ("x", 0), ("|", 0), ("#", 0), (":", 0), ("2", 1), ("2 ", 2), ("2x", 1), ("-2", 0),
    ("2 |", 3), ("2 | ", 4), ("2 | 0", 5), ("2 | 0 1", 7), ("2 | 0 1 ", 8), ("2 | 0 1 :", 9), ("2 | 0 1 : ", 10),
    ("2 | 0 1 : 7", 11), ("2 | 0 1 : 7 ", 12), ("2 | 0 1 : 7 #", 13), ("2 | 0 1 : 7 # ", 14), ("2 | 0 1 : 7 # 0", 15),
    ("2 | 0 1 : 7 # 0 ", 16), ("2 | 0 1 : 7 |", 13), ("2 | 0 1 : 7 | 0 1", 17), ("2 | 0 1 : 7 # 0 1 #", 19),
    ("2 # 0 1", 2), ("2 # 0 1 | 0 1 : 7", 2), ("#", 0), ("2 : 7", 2), ("2 2 | 0 1 : 7 # 0 1", 2),
    ("2 | 0 1 : 7 # 0 1 | 0 1 : 7", 18), ("2 | 0 1 : 7 # 0 | 1", 16), ("2 | 0 1 : 7 # | 0 1", 14),
    ("2 | 0 1 : # 0 1", 10), ("2 | 0 1 : | 0 1 : 7 # 0 1", 10), ("2 | 0 1 # 0 1", 8), ("2 | 0 1 7 # 0 1", 8),
    ("2 | 0 1 | 7 # 0 1", 8), ("2 | 0 : 1 7 # 0 1", 6), ("2 | : 0 1 7 # 0 1", 4), ("2 | 0 1 :: 7 # 0 1", 9),
    ("2 | 0 1 : 7 : 8 # 0 1", 12), ("2 || 0 1 : 7 # 0 1", 3), ("2 | 0 1 : 7 ## 0 1", 13), ("2 | 0 1 : 7 # 0 1 2", 18),
    ("2 | 0 1 : 7 # 0 1 : 7", 18), ("2 | 0 1 : 7 # 0 : 1", 16), ("2 | 0 1 : 7 # 0 1x", 17), ("2 | 0 1 : 7x # 0 1", 11),
    ("1 | 0 1 : 7 # 0 1", 0), ("7 | 0 1 : 7 # 0 1", 0), ("0 | 0 1 : 7 # 0 1", 0), ("02 | 0 1 : 7 # 0 1", 0),
    ("  7 | 0 1 : 7 # 0 1", 2), ("20 | 0 1 : 7 # 0 1", 0), ("2 | 2 1 : 7 # 0 1", 4), ("2 | 0 2 : 7 # 0 1", 6),
    ("2 | 00 1 : 7 # 0 1", 4), ("2 | 0 01 : 7 # 0 1", 6), ("2 | 0 0 : 7 # 0 1", 6), ("2 | 1 1 : 7 # 0 1", 6),
    ("6 | 6 5 : 7 # 0 1", 4), ("6 | 5 6 : 7 # 0 1", 6), ("2 | 01 : 7 # 0 1", 4), ("2 | 10 : 7 # 0 1", 4),
    ("2 | 0 1 : 07 # 0 1", 10), ("2 | 0 1 : 00 # 0 1", 10), ("2 | 0 1 : 1001 # 0 1", 10), ("2 | 0 1 : 9999 # 0 1", 10),
    ("2 | 0 1 : 7 6 # 0 1 # 0 1", 12), ("2 | 0 1 : 7 7 6 # 0 1 # 0 1", 14), ("2 | 0 1 : 7 07 # 0 1 # 0 1", 12),
    ("2 | 0 1 : 7 1001 # 0 1 # 0 1", 12), ("2 | 0 1 : 7 6x", 12), ("2 | 0 1 : 10 9 # 0 1", 13), ("2 | 0 1 : 1 0", 12),
    ("2 | 0 1 : 7 # 2 1", 14), ("2 | 0 1 : 7 # 0 2", 16), ("2 | 0 1 : 7 # 0 0", 16), ("2 | 0 1 : 7 # 1 1", 16),
    ("2 | 0 1 : 7 # 00 1", 14), ("2 | 0 1 : 7 # 0 01", 16), ("2 | 0 1 : 7 # 01", 14), ("2 | 0 1 : 7 # 0 11", 16),
    ("2 | 0 1 : -7 # 0 1", 10), ("2 | 0 1 : +7 # 0 1", 10), ("2 | 0 1 : 7, 8 # 0 1", 11), ("2 | 0 1 : 7.5 # 0 1", 11),
    ("2\t| 0 1 : 7 # 0 1", 1), ("2 | 0 1 : 7 # 0 1\n", 17), ("\n2 | 0 1 : 7 # 0 1", 0), ("2 | 0 1 :\r7 # 0 1", 9),
    ("2 | 0 1 : 7\u00a0# 0 1", 11), ("2 | 0 1 : \u0667 # 0 1", 10), ("2 | 0 1 : 7\u00b2 # 0 1", 11),
    ("2 | 0 1 : " + "9" * 5000, 10), ("2 | 0 1 : " + "0" * 5000, 10), ("9" * 5000, 0),
    ("2 | 0 1 : 7 # " + "1" * 5000, 14),
    ("2" + ROAD * 8, 81), ("2" + ROAD * 8 + " ", 82), ("2" + ROAD * 8 + " |", 82), ("2" + ROAD * 8 + "|", 81),
    ("2" + ROAD * 9 + PLAYER, 82), ("2" + ROAD * 8 + PLAYER + " |", 88), ("2" + ROAD * 8 + " x", 82),
    (FOUR + " #", 42), (FOUR + "#", 41), (FOUR + PLAYER, 42), (FOUR + "   # x", 44), (FOUR + " |", 42),
    (FOUR + " 0", 42), (FOUR + "x", 41), ("2 | 0 1 : 1 2 3" + PLAYER * 5, 40),
)


class Wrong(Exception):
    """What an own reading of a text meets: a word and a number."""


class Reading:
    """An own reading of a text, from its numbers, signs and end on."""

    def __init__(self, text):
        self.tokens = [(found.group(), found.start()) for found in re.finditer("[0-9]+|[^ ]", text)] + [("", len(text))]

    def sign(self, *wanted):
        word, place = self.tokens.pop(0)
        if word not in wanted:
            raise Wrong("text", place)
        return word

    def number(self, known):
        """The next number, which must be one of these."""
        word, place = self.tokens.pop(0)
        if word not in known:
            raise Wrong("text", place)
        return int(word)

    def ends(self, size):
        nodes = [str(node) for node in range(size)]
        start = self.number(nodes)
        return (start, self.number([node for node in nodes if node != str(start)]))

    def road(self, size):
        ends = self.ends(size)
        self.sign(":")
        costs = [self.number([str(cost) for cost in range(1001)])]
        while re.fullmatch("[0-9]+", self.tokens[0][0]):
            costs.append(self.number([str(cost) for cost in range(costs[-1], 1001)]))
        return (*ends, tuple(costs))

    def game(self):
        size = self.number(list("23456"))
        self.sign("|")
        roads, players = [self.road(size)], []
        while self.sign("|", "#") == "|" if len(roads) < 8 else self.sign("#") == "|":
            roads.append(self.road(size))
        players.append(self.ends(size))
        while self.sign("#", "") if len(players) < 4 else self.sign(""):
            players.append(self.ends(size))
        return self.checked((size, tuple(roads), tuple(players)))

    def checked(self, game):
        for index, road in enumerate(game[1]):
            if len(road[2]) != len(game[2]):
                raise Wrong("game", index)
        for index, player in enumerate(game[2]):
            if not ways_of(game, *player):
                raise Wrong("game", len(game[1]) + index)
        return game


def own_reading(text):
    """What a text names: a game, or the word and the number of what is wrong."""
    try:
        return Reading(text).game()
    except Wrong as wrong:
        return wrong.args


def reading(text):
    try:
        return read_game(text)
    except InvalidText as error:
        return ("text", error.place)
    except BadGame as error:
        return ("game", error.index)


class WriteTest(Raising, unittest.TestCase):
    def test_known_texts(self):
        self.assert_same(write_game(PAIR), "3 | 0 1 : 1 2 | 1 2 : 0 0 | 0 2 : 2 5 # 0 2 # 0 2")
        self.assert_same(write_game(ONE), "2 | 0 1 : 1 | 0 1 : 2 # 0 1")
        self.assert_same(write_game(ALONE), SHORT)
        self.assert_same(write_game((6, ((5, 0, (0, 10, 999, 1000)),), ((5, 0),) * 4)),
                         "6 | 5 0 : 0 10 999 1000" + " # 5 0" * 4)

    def test_games_that_are_too_large_for_the_other_functions(self):
        for game in (NINE_WAYS, MORE_STATES, lanes_game(8, 4), lanes_game(6, 4)):
            with self.assertRaises(RoadError):
                standing_states(game)
            self.assert_same(read_game(write_game(game)), game)

    def test_wrong_games(self):
        for index, game in (*BAD_GAMES, (None, TEXT), (None, (3, PAIR[1] * 3, PAIR[2])), (None, (3, (), PAIR[2])),
                            (None, (3, PAIR[1], PAIR[2] * 3))):
            self.assert_raises(BadGame, {"index": index}, write_game, game)
        for game in INTEGER_WRONGS:
            self.assert_raises(BadGame, {"index": None}, write_game, game)
        self.assert_raises(BadGame, {"index": 3}, write_game, (*NINE_WAYS[:1], NINE_WAYS[1][:3] + ("x",), NINE_WAYS[2]))


class ReadTest(Raising, unittest.TestCase):
    def test_both_ways(self):
        for game in (PAIR, ONE, ALONE, FREE, MIXED, CROWD, THOUSAND_STATES, *sample_games(151, 80)):
            self.assert_same(read_game(write_game(game)), game)
            self.assert_same(write_game(read_game(write_game(game))), write_game(game))

    def test_spaces(self):
        wanted = (3, ((0, 1, (1, 2)), (1, 2, (0, 0))), ((0, 2), (0, 2)))
        for text in (TEXT, "3|0 1:1 2|1 2:0 0#0 2#0 2", "  3  |  0  1  :  1  2  |  1  2  :  0  0  #  0  2  #  0  2  ",
                     "3 |0 1: 1 2| 1 2 :0 0 #0 2# 0 2"):
            self.assert_same(read_game(text), wanted)

    def test_bounds(self):
        for size in range(2, 7):
            self.assert_same(read_game(f"{size} | 0 {size - 1} : 1000 # 0 {size - 1}"),
                             (size, ((0, size - 1, (1000,)),), ((0, size - 1),)))
        self.assert_same(read_game("2" + ROAD * 8 + PLAYER), (2, ((0, 1, (7,)),) * 8, ((0, 1),)))
        self.assert_same(read_game(FOUR), (2, ((0, 1, (1, 2, 3, 4)),), ((0, 1),) * 4))
        self.assert_same(read_game("2" + " | 0 1 : 7 7 7 7" * 8 + PLAYER * 4 + "  "),
                         (2, ((0, 1, (7, 7, 7, 7)),) * 8, ((0, 1),) * 4))

    def test_places(self):
        for text, place in PLACES:
            with self.subTest(text=text[:60]):
                self.assert_raises(InvalidText, {"place": place}, read_game, text)

    def test_each_text_that_ends_too_early(self):
        # A text may end behind a player, and is then read with fewer of them.
        for length in range(len(TEXT)):
            if length in (31, 32):
                self.assert_raises(BadGame, {"index": 0}, read_game, TEXT[:length])
            else:
                self.assert_raises(InvalidText, {"place": length}, read_game, TEXT[:length])

    def test_one_character_changed_taken_out_or_put_in(self):
        found = []
        for text in (TEXT, SHORT, "4|0 1:9 10|1 3:0 1000|0 3:5 5#0 3#0 1", FOUR, "2" + ROAD * 8 + PLAYER):
            for place in range(len(text) + 1):
                texts = [text[:place] + text[place + 1:]]
                for sign in "0179 |:#x\n":
                    texts += [text[:place] + sign + text[place + 1:], text[:place] + sign + text[place:]]
                for near in texts:
                    wanted = own_reading(near)
                    self.assert_same(reading(near), wanted)
                    found.append(wanted[0])
        for word in ("text", "game", 2, 3):
            self.assertGreater(found.count(word), 50, word)

    def test_values_that_are_no_text(self):
        for value in (0, 2, -1, True, False, None, (), (TEXT,), [], [TEXT], {}, {TEXT: 1}, PAIR):
            self.assert_raises(NotText, {}, read_game, value)


class BadTest(Raising, unittest.TestCase):
    def test_tables_of_another_length(self):
        for index, text in ((0, "2 | 0 1 : 7 # 0 1 # 0 1"), (0, "2 | 0 1 : 7 8 # 0 1"),
                            (0, "2 | 0 1 : 1 2 3 4 5 # 0 1"), (1, "2 | 0 1 : 7 | 0 1 : 7 8 # 0 1"),
                            (1, "2 | 0 1 : 7 8 | 0 1 : 7 | 0 1 : 7 # 0 1 # 0 1"),
                            (0, "2 | 0 1 :" + " 1000" * 300 + " # 0 1"), (0, "2 | 0 1 : 7 8 # 1 0")):
            self.assert_raises(BadGame, {"index": index}, read_game, text)

    def test_players_without_a_way(self):
        for index, text in ((1, "2 | 0 1 : 7 # 1 0"), (2, "2 | 0 1 : 7 7 # 0 1 # 1 0"),
                            (1, "2 | 0 1 : 7 7 # 1 0 # 1 0"), (2, "3 | 0 1 : 7 | 1 2 : 7 # 2 0"),
                            (2, "6 | 0 1 : 7 | 1 2 : 7 # 0 5")):
            self.assert_raises(BadGame, {"index": index}, read_game, text)

    def test_as_standing_states_would(self):
        for text, game in (("2 | 0 1 : 7 # 0 1 # 0 1", (2, ((0, 1, (7,)),), ((0, 1),) * 2)),
                           ("3 | 0 1 : 7 | 1 2 : 7 # 2 0", (3, ((0, 1, (7,)), (1, 2, (7,))), ((2, 0),))),
                           ("2 | 0 1 : 7 7 # 0 1 # 1 0", (2, ((0, 1, (7, 7)),), ((0, 1), (1, 0))))):
            with self.assertRaises(BadGame) as caught:
                standing_states(game)
            self.assert_raises(BadGame, {"index": caught.exception.index}, read_game, text)

    def test_a_wrong_character_comes_first(self):
        self.assert_raises(InvalidText, {"place": 24}, read_game, "2 | 0 1 : 7 # 0 1 # 0 1 x")
        self.assert_raises(InvalidText, {"place": 18}, read_game, "2 | 0 1 : 7 # 1 0 x")


if __name__ == "__main__":
    unittest.main()
