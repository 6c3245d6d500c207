import random
import re
import unittest

from broughtin import clubs, errors, lines, links, shares, texts, ways
from broughtin.live import Door
from broughtin.session import session
from trial import EXAMPLE, TOP, answer_of, random_club, wide_clubs

EXAMPLE_TEXT = "0:2 0:1 1=1 1=0 2=0 3=0"
NUMBER = re.compile("0|[1-9][0-9]{0,30}")
# For each first word what stands behind it: a number or any word.
WORDS = {
    "enter": [NUMBER, None], "tell": [NUMBER] * 2, "ticket": [NUMBER] * 2, "undo": [], "back": [NUMBER], "new": [],
    "club": [], "tickets": [], "ways": [], "why": [], "bringers": [NUMBER], "share": [NUMBER] * 2,
    "below": [NUMBER] * 2,
}
QUESTIONS = ["club", "tickets", "ways", "why", "bringers 0", "share 0 1", "below 0 1"]


def told_lines(club, tickets=()):
    """Lines that tell a club and links."""
    rows = [f"enter {day} {came}" for day, came, _ in club]
    rows += [f"tell {member} {number}" for member, (_, _, number) in enumerate(club) if number]
    return rows + [f"ticket {bringer} {member}" for bringer, member in tickets]


def answers_to(rows):
    """The answers, one for each line."""
    told = answer_of(session, "\n".join(rows)).split("\n")
    assert len(told) == len(rows), (rows, told)
    return told


def behind(rows, *more):
    """The answers to the last lines, behind others."""
    return answers_to(list(rows) + list(more))[len(rows):]


def words_of(line):
    """The words of a line with the numbers as integers, or None if it is no line that the document lists."""
    words = line.split(" ")
    form = WORDS.get(words[0])
    if form is None or len(form) != len(words) - 1 or "" in words:
        return None
    for kind, word in zip(form, words[1:]):
        if kind is not None and not kind.fullmatch(word):
            return None
    return [words[0]] + [word if kind is None else int(word) for kind, word in zip(form, words[1:])]


def conflict_text(club):
    conflict = clubs.conflict_of(club)
    return "none" if conflict is None else "{} {}".format(*conflict)


def steps_text(steps):
    return "no" if steps is None else "{}..{}".format(*steps)


class Model:
    """A session that calls the methods and functions itself."""

    def __init__(self):
        self.door = Door()

    def answer(self, line):
        words = words_of(line)
        if words is None:
            return "?"
        if words == ["new"]:
            self.door = Door()
            return "ok"
        try:
            return self.told(*words)
        except errors.ClubError as error:
            return type(error).__name__

    def told(self, word, *rest):
        changes = {"enter": "enter", "tell": "tell", "ticket": "ticket", "undo": "undo", "back": "undo_to"}
        if word in changes:
            self_answer = getattr(self.door, changes[word])(*rest)
            assert self_answer is None
            return "ok"
        club = self.door.club
        return {
            "club": lambda: texts.write_club(club) if club else "-",
            "tickets": lambda: texts.write_links(self.door.tickets),
            "ways": lambda: str(self.door.ways),
            "why": lambda: conflict_text(club),
            "bringers": lambda: " ".join(map(str, links.bringers_of(club, *rest))) or "-",
            "share": lambda: "{}/{}".format(*shares.share(club, *rest)),
            "below": lambda: steps_text(lines.step_range(club, *rest)),
        }[word]()


def some_line(chance, size):
    """A line for a door with about so many members; a few are wrong."""
    member = str(chance.randrange(size + 1))
    other = str(chance.randrange(size + 1))
    day = str(chance.choice((0, 1, 2, 2, 3, 4, TOP)))
    line = chance.choice((
        f"enter {day} alone", f"enter {day} brought", f"enter {day} brought", f"tell {member} {chance.randrange(4)}",
        f"tell {member} {chance.randrange(3)}", f"ticket {member} {other}", f"ticket {member} {other}", "undo",
        f"back {chance.randrange(2 * size + 1)}", "club", "tickets", "ways", "ways", "why", f"bringers {member}",
        f"share {member} {other}", f"below {member} {other}", f"below {member} {other}",
        chance.choice(("new", "enter 1 unsure", f"tell 0 {TOP + 1}", "why not", "undo  ", "", "tell 0", "back -1")),
    ))
    if chance.random() < 0.05:
        spot = chance.randrange(len(line) + 1)
        return line[:spot] + chance.choice(" 0a-") + line[spot:]
    return line


class ExampleTest(unittest.TestCase):
    def test_a_session(self):
        rows = told_lines(EXAMPLE)
        self.assertEqual(answers_to(rows), ["ok"] * 9)
        for line, answer in (
            ("club", EXAMPLE_TEXT), ("tickets", "-"), ("ways", "6"), ("why", "none"), ("bringers 5", "0 1 2"),
            ("bringers 0", "-"), ("share 0 5", "1/3"), ("share 3 5", "0/1"), ("below 0 5", "1..2"),
            ("below 2 5", "1..1"), ("below 3 5", "no"), ("below 5 0", "no"),
        ):
            self.assertEqual(behind(rows, line), [answer], line)

    def test_tickets(self):
        rows = told_lines(EXAMPLE, [(1, 2), (0, 5)])
        self.assertEqual(behind(rows, "tickets", "ways"), ["0>5 1>2", "1"])
        # The club is asked without the tickets.
        self.assertEqual(behind(rows, "bringers 5", "share 0 5", "why", "below 0 5"), ["0 1 2", "1/3", "none", "1..2"])
        self.assertEqual(behind(rows, "ticket 2 3"), ["InvalidLinks"])
        self.assertEqual(behind(rows, "ticket 0 5"), ["InvalidLinks"])
        self.assertEqual(behind(rows, "undo", "tickets", "ways"), ["ok", "1>2", "2"])

    def test_undo_and_back(self):
        rows = told_lines(EXAMPLE)
        self.assertEqual(behind(rows, "back 6", "club"), ["ok", "0:0 0:0 1=0 1=0 2=0 3=0"])
        self.assertEqual(behind(rows, "back 9", "club"), ["ok", EXAMPLE_TEXT])
        self.assertEqual(behind(rows, "back 10", "club"), ["InvalidIndex", EXAMPLE_TEXT])
        self.assertEqual(behind(rows, "back 0", "club", "undo"), ["ok", "-", "NothingToUndo"])
        self.assertEqual(behind(rows, "undo", "undo", "club"), ["ok", "ok", "0:2 0:0 1=0 1=0 2=0 3=0"])

    def test_new(self):
        rows = told_lines(EXAMPLE, [(0, 5)])
        self.assertEqual(behind(rows, "new", "club", "tickets", "ways", "undo"), ["ok", "-", "-", "0", "NothingToUndo"])
        self.assertEqual(behind(rows, "new", "new", "enter 0 alone", "club"), ["ok", "ok", "ok", "0:0"])

    def test_conflicts(self):
        rows = ["enter 0 alone", "enter 4 brought"]
        self.assertEqual(behind(rows, "why", "ways", "bringers 1"), ["day 4", "0", "Impossible"])
        self.assertEqual(behind(rows, "tell 0 3", "why", "share 0 1", "below 0 1"),
                         ["ok", "left 2", "Impossible", "Impossible"])
        self.assertEqual(behind(rows, f"tell 0 {TOP}", f"tell 1 {TOP}", "why", "ways"),
                         ["ok", "ok", f"left {2 * TOP - 1}", "0"])


class EmptyDoorTest(unittest.TestCase):
    def test_questions(self):
        told = ["-", "-", "0", "InvalidClub", "InvalidClub", "InvalidClub", "InvalidClub"]
        self.assertEqual(answers_to(QUESTIONS), told)
        self.assertEqual(behind(["enter 0 alone", "undo"], *QUESTIONS), told)
        self.assertEqual(answers_to(["bringers 99", "share 99 0", "below 0 99"]), ["InvalidClub"] * 3)

    def test_calls(self):
        rows = ["tell 0 0", "ticket 0 0", "undo", "back 0", "back 1", "new"]
        told = ["InvalidMember", "InvalidMember", "NothingToUndo", "ok", "InvalidIndex", "ok"]
        self.assertEqual(answers_to(rows), told)

    def test_the_empty_string_and_empty_lines(self):
        self.assertEqual(answer_of(session, ""), "?")
        self.assertEqual(answer_of(session, "\n"), "?\n?")
        self.assertEqual(answer_of(session, "\nclub\n"), "?\n-\n?")
        self.assertEqual(answer_of(session, "club"), "-")


class ErrorsTest(unittest.TestCase):
    def test_each_error(self):
        rows = told_lines(EXAMPLE, [(0, 5)])
        for line, answer in (
            ("enter 2 alone", "InvalidDay"), (f"enter {TOP + 1} alone", "InvalidDay"),
            ("enter 3 unsure", "InvalidName"),
            ("enter 3 Alone", "InvalidName"), ("enter 2 unsure", "InvalidDay"), ("enter 3 0", "InvalidName"),
            ("tell 6 0", "InvalidMember"), (f"tell 6 {TOP + 1}", "InvalidMember"),
            (f"tell 5 {TOP + 1}", "InvalidNumber"),
            ("ticket 0 6", "InvalidMember"), ("ticket 6 0", "InvalidMember"), ("ticket 2 3", "InvalidLinks"),
            ("ticket 0 1", "InvalidLinks"), ("ticket 1 5", "InvalidLinks"), ("back 11", "InvalidIndex"),
            (f"back {TOP}", "InvalidIndex"), ("bringers 6", "InvalidMember"), ("share 0 6", "InvalidMember"),
            ("share 6 0", "InvalidMember"), ("below 0 6", "InvalidMember"), ("below 7 0", "InvalidMember"),
        ):
            told = behind(rows, line, "club", "tickets", "ways", "back 10", "undo", "tickets")
            self.assertEqual(told, [answer, EXAMPLE_TEXT, "0>5", "2", "ok", "ok", "-"], line)

    def test_a_61st_member(self):
        rows = ["enter 0 alone"] * 60
        self.assertEqual(behind(rows, "enter 0 alone", "enter 0 x"), ["InvalidMember", "InvalidName"])
        self.assertEqual(behind(rows, "ways", "why"), ["1", "none"])

    def test_impossible_ahead_of_nothing_else(self):
        rows = ["enter 0 brought"]
        self.assertEqual(behind(rows, "bringers 0", "bringers 1", "share 0 0", "below 0 1"),
                         ["Impossible", "InvalidMember", "Impossible", "InvalidMember"])


class OtherLinesTest(unittest.TestCase):
    LINES = [
        "", " ", "  ", "x", "Enter 0 alone", "ENTER 0 alone", "enter", "enter 0", "enter 0 alone x", "enter alone 0",
        "enter  0 alone", "enter 0  alone", " enter 0 alone", "enter 0 alone ", "enter 0 ", "enter -1 alone",
        "enter +1 alone", "enter 00 alone", "enter 01 alone", "enter 1.0 alone", "enter x alone", "enter 1e3 alone",
        "enter " + "1" * 32 + " alone", "enter " + "0" * 31 + " alone", "tell", "tell 0", "tell 0 1 2", "tell 0 -1",
        "tell -1 0", "tell x 0", "tell 0 x", "tell 00 0", "tell 0 01", "tell 0 " + "9" * 32, "tell 0 1 ", "ticket",
        "ticket 0", "ticket 0>1", "ticket 0 1 2", "ticket -1 0", "ticket 0 x", "undo 1", "undo ", " undo", "undo undo",
        "back", "back -1", "back 1 1", "back x", "back 01", "back ", "new 1", "new ", " new", "New", "newer", "club 0",
        "club ", "tickets -", "ways 1", "why ?", "bringers", "bringers 0 1", "bringers x", "bringers -1", "share",
        "share 0", "share 0 1 2", "share 0/1", "share a b", "below", "below 0", "below 0 1 1", "below x 1", "below 1 x",
        "?", "-", "ok", "undo_to 1", "mark", "twin", "len", "session", "day 1", "left 1", "none", "no",
        "1", "0:0", "enter\t0 alone", "club;club", "bringers  0", "share  0 1", "why  ", "0", "club club",
    ]

    def test_other_lines(self):
        rows = told_lines(EXAMPLE, [(0, 5)])
        for line in self.LINES:
            told = behind(rows, line, "club", "tickets", "back 10", "undo", "tickets")
            self.assertEqual(told, ["?", EXAMPLE_TEXT, "0>5", "ok", "ok", "-"], line)
            self.assertIsNone(words_of(line))

    def test_numbers_of_31_digits_are_numbers(self):
        self.assertEqual(answers_to(["enter " + "9" * 31 + " alone"]), ["InvalidDay"])
        self.assertEqual(answers_to([f"enter {TOP} alone", f"tell 0 {TOP}", "club"]), ["ok", "ok", f"{TOP}:{TOP}"])
        self.assertEqual(answers_to(["enter 0 alone", "tell 0 " + "9" * 31]), ["ok", "InvalidNumber"])
        self.assertEqual(answers_to(["back " + "9" * 31, "back " + "9" * 32]), ["InvalidIndex", "?"])


class LongSessionsTest(unittest.TestCase):
    def test_a_hundred_lines(self):
        chance = random.Random(161)
        seen = {}
        for _ in range(400):
            rows = [some_line(chance, 6) for _ in range(100)]
            if chance.random() < 0.7:
                club = random_club(chance, 6, 4)
                rows = (told_lines([(day // 3, came, number) for day, came, number in club]) + rows)[:100]
            model = Model()
            told = answers_to(rows)
            self.assertEqual(told, [model.answer(line) for line in rows], rows)
            for answer in told:
                kind = re.sub("[0-9]+", "0", answer)
                seen[kind] = seen.get(kind, 0) + 1
        for kind in (
            "ok", "?", "-", "0", "none", "day 0", "left 0", "0/0", "0..0", "no", "0>0", "InvalidClub", "InvalidDay",
            "InvalidName", "InvalidMember", "InvalidNumber", "InvalidLinks", "InvalidIndex", "NothingToUndo",
            "Impossible",
        ):
            self.assertGreater(seen.get(kind, 0), 10, kind)

    def test_answers_with_more_digits(self):
        club = [club for club in wide_clubs() if len(club) == 45][0]
        rows = told_lines(club)
        member = clubs.brought_in(club)[-1]
        told = behind(rows, "ways", f"share 0 {member}")
        self.assertEqual(told, [str(ways.count_ways(club)), "{}/{}".format(*shares.share(club, 0, member))])
        many = ["enter 0 alone"] * 30 + ["enter 1 brought"] * 30 + [f"tell {i} 1" for i in range(30)]
        self.assertEqual(behind(many, "ways"), ["265252859812191058636308480000000"])

    def test_two_sessions_share_no_door(self):
        self.assertEqual(session("enter 5 alone"), "ok")
        self.assertEqual(session("club"), "-")

    def test_by_name(self):
        self.assertEqual(session(rows="enter 0 alone\nclub"), "ok\n0:0")


if __name__ == "__main__":
    unittest.main()
