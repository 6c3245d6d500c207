import random
import re
import unittest

from broughtin import clubs, errors, texts, unsure, ways
from trial import (
    EXAMPLE, EXAMPLE_WAYS, INVALID_CLUBS, STRANGE, TOP, answer_of, error_of, kind_of, links_in, random_club,
    tried_clubs, wide_clubs,
)

EXAMPLE_TEXT = "0:2 0:1 1=1 1=0 2=0 3=0"
ALL_SIGNS = [(0, "alone", 3), (0, "unsure", 0), (7, "brought", 1), (TOP, "unsure", TOP), (TOP, "brought", 0)]
ALL_SIGNS_TEXT = f"0:3 0?0 7=1 {TOP}?{TOP} {TOP}=0"
SIGN_OF = {"alone": ":", "brought": "=", "unsure": "?"}
NUMBER = "0|[1-9][0-9]{0,30}"
LETTERS = "0123456789:=?>- a\n"

# Clubs in texts: the text, and the number of the first word that cannot stand.
WRONG_CLUBS = [
    ("", 0), (" ", 0), ("  ", 0), ("\n", 0), ("-", 0), ("0", 0), (":", 0), ("0:", 0), (":0", 0), ("0:0:0", 0),
    ("0::0", 0), ("0;0", 0), ("0-0", 0), ("0>0", 0), ("0:0?", 0), ("0=0:0", 0), ("a:0", 0), ("0:a", 0), ("0:0a", 0),
    (" 0:0", 0), ("0:0 ", 1), ("0:0  1:0", 1), ("0:0 1:0  ", 2), ("0:0\n1:0", 0), ("0:0 1:0\n", 1), ("0:0\n", 0),
    ("00:0", 0), ("0:00", 0), ("01:0", 0), ("0:01", 0), ("0:0 1:0 2=03", 2),
    ("-1:0", 0), ("0:-1", 0), ("+1:0", 0), ("0:+1", 0), ("0:-0", 0), ("1.0:0", 0), ("1_0:0", 0), ("0x1:0", 0),
    ("1e3:0", 0),
    (f"{TOP + 1}:0", 0), (f"0:{TOP + 1}", 0), (f"0:0 {TOP + 1}:0", 1), (f"0:0 0={9 * TOP}", 1), (f"{9 * TOP}?0", 0),
    (f"{10 * TOP}:0", 0), (f"0:{10 * TOP}", 0), ("0" * 31 + ":0", 0), ("0" * 32 + ":0", 0), ("0:" + "1" * 32, 0),
    ("1:0 0:0", 1), ("0:0 5:0 4:0", 2), ("0:0 5=0 4=0 3=0", 2), (f"{TOP}:0 {TOP - 1}:0", 1), ("5:0 4:0 x", 1),
    (" ".join(["0?0"] * 13), 12), (" ".join(["0:0"] * 5 + ["1?0"] * 13), 17), (" ".join(["0?0"] * 60), 12),
    (" ".join(["0:0"] * 61), 60), (" ".join(["0:0"] * 62), 60), (" ".join(["0:0"] * 60 + [""]), 60),
    (" ".join(["0:0"] * 48 + ["1?0"] * 12 + ["1:0"]), 60), (" ".join(["0:0"] * 60 + ["x"]), 60),
    ("0:" + "1" * 5000, 0), ("1" * 8000, 0), (" " * 8000, 0), ("0:0 alone", 1), ("club", 0), ("0:0,1:0", 0),
]
WRONG_WAYS = [
    ("", 0), (" ", 0), ("- ", 1), (" -", 0), ("-  -", 1), ("--", 0), ("- --", 1), ("-\n-", 0), ("None", 0), ("0>1", 0),
    ("- 60", 1), ("60", 0), ("- 0 61", 2), (f"- {TOP}", 1), ("- " + "1" * 31, 1), ("- " + "1" * 32, 1), ("00", 0),
    ("- 01", 1), ("- -1", 1), ("- +1", 1), ("- 1.", 1), ("- x", 1), ("0:0", 0), ("-1", 0), ("- 0,1", 1),
    (" ".join(["-"] * 61), 60), (" ".join(["-"] * 60 + ["x"]), 60), (" ".join(["59"] * 61), 60),
    (" ".join(["-"] * 60 + [""]), 60), ("1" * 8000, 0), ("- " * 4000, 60),
]
WRONG_LINKS = [
    ("", 0), (" ", 0), ("- ", 1), (" -", 0), ("- -", 1), ("- 1>2", 1), ("- 1>2 x", 1), ("- x", 1), ("-  1>2", 1),
    ("1>2 -", 1), ("1>2 3>4 -", 2), ("--", 0), ("1>", 0), (">1", 0), (">", 0), ("1", 0), ("1>2>3", 0), ("1>>2", 0),
    ("1:2", 0), ("1-2", 0), ("1<2", 0), ("1>2 ", 1), (" 1>2", 0), ("1>2  3>4", 1), ("1>2\n3>4", 0), ("1>2,3>4", 0),
    ("60>1", 0), ("1>60", 0), ("0>1 60>2", 1), ("0>1 1>60", 1), (f"{TOP}>1", 0), ("1>" + "1" * 31, 0),
    ("1>" + "1" * 32, 0), ("01>2", 0), ("1>02", 0), ("00>2", 0), ("-1>2", 0), ("1>-2", 0), ("+1>2", 0), ("a>2", 0),
    ("0>1 0>1", 1), ("0>1 0>2 3>1", 2), ("0>5 1>5", 1), ("0>1 2>3 4>1 x", 2), ("0>1 2>3 x 4>1", 2),
    (" ".join([f"0>{j}" for j in range(60)] + ["0>0"]), 60), (" ".join([f"0>{j}" for j in range(60)] + ["x"]), 60),
    (" ".join([f"0>{j}" for j in range(60)] + [""]), 60), ("0>1 " * 2000, 1),
]


def club_place(text):
    """The number of the first word that cannot stand in a club, or None, word by word."""
    last, unsure_ones = 0, 0
    for place, word in enumerate(text.split(" ")):
        found = re.fullmatch(f"({NUMBER})([:=?])({NUMBER})", word)
        if not found or place == 60:
            return place
        day, number = int(found[1]), int(found[3])
        unsure_ones += found[2] == "?"
        if max(day, number) > TOP or day < last or unsure_ones > 12:
            return place
        last = day
    return None


def way_place(text):
    for place, word in enumerate(text.split(" ")):
        if place == 60 or not re.fullmatch("-|[0-9]|[1-5][0-9]", word):
            return place
    return None


def links_place(text):
    if text == "-":
        return None
    seen = []
    for place, word in enumerate(text.split(" ")):
        if place == 0 and word == "-":
            return 1
        found = re.fullmatch("([0-9]|[1-5][0-9])>([0-9]|[1-5][0-9])", word)
        if not found or place == 60 or found[2] in seen:
            return place
        seen.append(found[2])
    return None


def place_in(call, *args, **named):
    """The place in the InvalidText that a call raises."""
    error = error_of(call, *args, **named)
    assert type(error) is errors.InvalidText, error
    return error.place


def changed(chance, text):
    """A text with one letter or word put in, left out or written otherwise."""
    spot = chance.randrange(len(text) + 1)
    kind = chance.randrange(5)
    if kind == 0:
        return text[:spot] + text[spot + 1:]
    if kind == 1:
        return text[:spot] + chance.choice(LETTERS) + text[spot:]
    if kind == 2:
        return text[:spot] + chance.choice(LETTERS) + text[spot + 1:]
    words = text.split(" ")
    at = chance.randrange(len(words))
    if kind == 3:
        return " ".join(words[:at] + [chance.choice(words)] + words[at:])
    other = chance.randrange(len(words))
    words[at], words[other] = words[other], words[at]
    return " ".join(words)


def unsure_ones(chance, club):
    """The club with up to twelve members of whom it is not told how they came."""
    members = chance.sample(range(len(club)), chance.randint(0, min(12, len(club))))
    return [(day, "unsure" if i in members else came, number) for i, (day, came, number) in enumerate(club)]


def some_links(chance):
    members = chance.sample(range(60), chance.choice((0, 1, 2, 5, 30, 60)))
    return [(chance.randrange(60), member) for member in members]


class ClubTextTest(unittest.TestCase):
    def test_the_text(self):
        self.assertEqual(answer_of(texts.write_club, EXAMPLE), EXAMPLE_TEXT)
        self.assertEqual(answer_of(texts.read_club, EXAMPLE_TEXT), EXAMPLE)
        self.assertEqual(answer_of(texts.write_club, ALL_SIGNS), ALL_SIGNS_TEXT)
        self.assertEqual(answer_of(texts.read_club, ALL_SIGNS_TEXT), ALL_SIGNS)
        self.assertEqual(answer_of(texts.write_club, [(0, "alone", 0)]), "0:0")

    def test_there_and_back(self):
        chance = random.Random(151)
        listed = [club for club, _ in tried_clubs()] + wide_clubs()
        listed += [unsure_ones(chance, club) for club in listed]
        for club in listed:
            text = texts.write_club(club)
            told = [f"{day}{SIGN_OF[came]}{number}" for day, came, number in club]
            self.assertEqual(text, " ".join(told))
            self.assertEqual(texts.read_club(text), club)

    def test_limits(self):
        for club in (
            [(0, "unsure", 0)] * 12, [(TOP, "alone", TOP)] * 60, [(0, "alone", 0)] * 48 + [(TOP, "unsure", TOP)] * 12,
            [(TOP, "brought", TOP)],
        ):
            text = answer_of(texts.write_club, club)
            self.assertEqual(answer_of(texts.read_club, text), club)

    def test_wrong_texts(self):
        for text, place in WRONG_CLUBS:
            with self.subTest(text=text[:90]):
                self.assertEqual(place_in(texts.read_club, text), place)
                self.assertEqual(club_place(text), place)


class WayTextTest(unittest.TestCase):
    def test_the_text(self):
        self.assertEqual(answer_of(texts.write_way, EXAMPLE_WAYS[0]), "- - 0 0 1 2")
        self.assertEqual(answer_of(texts.read_way, "- - 0 0 1 2"), EXAMPLE_WAYS[0])
        self.assertEqual(answer_of(texts.write_way, [None]), "-")
        self.assertEqual(answer_of(texts.read_way, "-"), [None])
        self.assertEqual(answer_of(texts.read_way, "59"), [59])
        self.assertEqual(answer_of(texts.write_way, [59, None, 0]), "59 - 0")

    def test_there_and_back(self):
        chance = random.Random(152)
        for club in wide_clubs():
            for _ in range(5):
                way = ways.nth_way(club, chance.randrange(ways.count_ways(club)))
                text = answer_of(texts.write_way, way)
                self.assertEqual(text, " ".join("-" if i is None else str(i) for i in way))
                self.assertEqual(answer_of(texts.read_way, text), way)
        for way in ([None] * 60, [59] * 60, list(range(60))):
            self.assertEqual(texts.read_way(texts.write_way(way)), way)

    def test_wrong_texts(self):
        for text, place in WRONG_WAYS:
            with self.subTest(text=text[:90]):
                self.assertEqual(place_in(texts.read_way, text), place)
                self.assertEqual(way_place(text), place)


class LinksTextTest(unittest.TestCase):
    def test_the_text(self):
        self.assertEqual(answer_of(texts.write_links, [(0, 5), (1, 2)]), "0>5 1>2")
        self.assertEqual(answer_of(texts.read_links, "0>5 1>2"), [(0, 5), (1, 2)])
        self.assertEqual(answer_of(texts.write_links, [(1, 2), (0, 5)]), "1>2 0>5")
        self.assertEqual(answer_of(texts.read_links, "1>2 0>5"), [(1, 2), (0, 5)])

    def test_no_links(self):
        self.assertEqual(answer_of(texts.write_links, []), "-")
        self.assertEqual(answer_of(texts.read_links, "-"), [])

    def test_there_and_back(self):
        chance = random.Random(153)
        for _ in range(200):
            links = some_links(chance)
            text = answer_of(texts.write_links, links)
            self.assertEqual(text, " ".join(f"{i}>{j}" for i, j in links) or "-")
            self.assertEqual(answer_of(texts.read_links, text), links)
        for club in wide_clubs():
            links = links_in(ways.nth_way(club, 0))
            self.assertEqual(texts.read_links(texts.write_links(links)), links)

    def test_wrong_texts(self):
        for text, place in WRONG_LINKS:
            with self.subTest(text=text[:90]):
                self.assertEqual(place_in(texts.read_links, text), place)
                self.assertEqual(links_place(text), place)


class ChangedTextsTest(unittest.TestCase):
    def hold(self, read, write, first, text):
        """The text is read and written again as it is, or its first wrong word is told."""
        place = first(text)
        if place is None:
            self.assertEqual(write(read(text)), text)
        else:
            self.assertEqual(place_in(read, text), place, text)
        return place is None

    def test_changed_texts(self):
        chance = random.Random(154)
        seen = {True: 0, False: 0}
        for _ in range(2500):
            club = random_club(chance, chance.choice((1, 3, 6, 12)))
            club = unsure_ones(chance, [(day, came, chance.choice((0, number, 10, TOP))) for day, came, number in club])
            way = [chance.choice((None, chance.randrange(60))) for _ in range(chance.choice((1, 4, 60)))]
            for read, write, first, thing in (
                (texts.read_club, texts.write_club, club_place, club),
                (texts.read_way, texts.write_way, way_place, way),
                (texts.read_links, texts.write_links, links_place, some_links(chance)),
            ):
                text = changed(chance, write(thing))
                seen[self.hold(read, write, first, text)] += 1
                seen[self.hold(read, write, first, changed(chance, text))] += 1
        self.assertGreater(min(seen.values()), 2000)

    def test_texts_of_any_letters(self):
        chance = random.Random(155)
        for _ in range(3000):
            text = "".join(chance.choice(LETTERS) for _ in range(chance.randrange(8)))
            self.hold(texts.read_club, texts.write_club, club_place, text)
            self.hold(texts.read_way, texts.write_way, way_place, text)
            self.hold(texts.read_links, texts.write_links, links_place, text)

    def test_each_printable_letter_alone(self):
        for letter in map(chr, list(range(32, 127)) + [10]):
            self.hold(texts.read_club, texts.write_club, club_place, letter)
            self.hold(texts.read_way, texts.write_way, way_place, letter)
            self.hold(texts.read_links, texts.write_links, links_place, letter)


class WrongInputsTest(unittest.TestCase):
    def test_invalid_club(self):
        for club in INVALID_CLUBS + [
            [(0, "unsure", 0)] * 13, [(0, "Unsure", 0)], [(0, "unsure", True)], [(TOP + 1, "unsure", 0)],
            [(1, "unsure", 0), (0, "unsure", 0)],
        ]:
            with self.subTest(club=club):
                self.assertIs(kind_of(texts.write_club, club), errors.InvalidClub)

    def test_invalid_way(self):
        for way in STRANGE + [
            [], [None] * 61, (None, 0), [60], [None, 60], [-1], [None, TOP], [True], [None, False], ["0"], ["-"],
            [None, [0]], [None, (0,)], "- 0", {0: None}, [errors.InvalidWay("none")],
        ]:
            with self.subTest(way=way):
                self.assertIs(kind_of(texts.write_way, way), errors.InvalidWay)

    def test_invalid_links(self):
        for links in STRANGE + [
            (0, 1), ((0, 1),), [0, 1], [[0, 1]], [(0,)], [()], [(0, 1, 2)], [None], [(60, 1)], [(0, 60)], [(-1, 1)],
            [(0, -1)], [(TOP, 1)], [(True, 2)], [(0, False)], [("0", 1)], [(0, None)], [(0, 1), (0, 1)],
            [(0, 1), (2, 3), (4, 1)], [(0, j) for j in range(60)] + [(1, 0)], "0>1", {0: 1},
        ]:
            with self.subTest(links=links):
                self.assertIs(kind_of(texts.write_links, links), errors.InvalidLinks)

    def test_possible_clubs_are_not_needed(self):
        club = [(0, "brought", 7), (0, "brought", TOP)]
        self.assertIsNotNone(clubs.conflict_of(club))
        self.assertEqual(texts.read_club(texts.write_club(club)), club)
        self.assertIsNone(unsure.choice_of(texts.read_club("0?5")))

    def test_a_list_that_is_changed_later(self):
        club = texts.read_club(EXAMPLE_TEXT)
        club.clear()
        self.assertEqual(texts.read_club(EXAMPLE_TEXT), EXAMPLE)

    def test_by_name(self):
        self.assertEqual(texts.write_club(club=EXAMPLE), EXAMPLE_TEXT)
        self.assertEqual(texts.read_club(text=EXAMPLE_TEXT), EXAMPLE)
        self.assertEqual(texts.write_way(way=[None, 0]), "- 0")
        self.assertEqual(texts.read_way(text="- 0"), [None, 0])
        self.assertEqual(texts.write_links(links=[(0, 1)]), "0>1")
        self.assertEqual(texts.read_links(text="0>1"), [(0, 1)])
        self.assertEqual(place_in(texts.read_links, text="- 1>2"), 1)


if __name__ == "__main__":
    unittest.main()
