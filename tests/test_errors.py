import copy
import unittest

from broughtin import errors

WITH_A_STRING = [
    "InvalidClub", "InvalidWay", "InvalidLinks", "InvalidDraws", "InvalidGroup", "InvalidSheet", "InvalidMember",
    "InvalidDay", "InvalidName", "InvalidNumber", "InvalidIndex", "NoLink", "NothingToUndo",
]
ALL = WITH_A_STRING + ["Impossible", "InvalidText"]


class ErrorsTest(unittest.TestCase):
    def test_base_class(self):
        self.assertEqual(errors.ClubError.__bases__, (ValueError,))

    def test_fifteen_direct_subclasses_and_no_other(self):
        self.assertEqual(len(set(ALL)), 15)
        for name in ALL:
            with self.subTest(name=name):
                self.assertEqual(getattr(errors, name).__bases__, (errors.ClubError,))
                self.assertEqual(getattr(errors, name).__name__, name)
        self.assertEqual(sorted(kind.__name__ for kind in errors.ClubError.__subclasses__()), sorted(ALL))

    def test_all_are_defined_in_this_file(self):
        for name in ALL + ["ClubError"]:
            self.assertEqual(getattr(errors, name).__module__, "broughtin.errors")

    def test_made_with_one_string(self):
        for name in WITH_A_STRING:
            with self.subTest(name=name):
                self.assertEqual(str(getattr(errors, name)("why not")), "why not")

    def test_impossible_keeps_word_and_number(self):
        for error in (errors.Impossible("day", 10 ** 30), errors.Impossible(number=10 ** 30, word="day")):
            self.assertEqual((error.word, error.number), ("day", 10 ** 30))
        error = errors.Impossible("left", 3)
        self.assertEqual((error.word, error.number), ("left", 3))

    def test_invalid_text_keeps_place(self):
        self.assertEqual(errors.InvalidText(4).place, 4)
        self.assertEqual(errors.InvalidText(place=0).place, 0)

    def test_errors_with_fields_can_be_copied(self):
        error = copy.copy(errors.Impossible("day", 5))
        self.assertEqual((error.word, error.number), ("day", 5))
        self.assertEqual(copy.copy(errors.InvalidText(6)).place, 6)


if __name__ == "__main__":
    unittest.main()
