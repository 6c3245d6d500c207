import inspect
import unittest

from broughtin import clubs, known, links, shares, ways

# The functions that the document lists, with their arguments.
INTERFACE = [
    (clubs, {
        "is_club": ["thing"], "days_in": ["club"], "brought_in": ["club"], "slots_ahead": ["club", "day"],
        "free_at": ["club", "day"], "slack_at": ["club", "day"], "conflict_of": ["club"],
        "shows_conflict": ["club", "thing"],
    }),
    (links, {
        "can_bring": ["club", "bringer", "member"], "bringers_of": ["club", "member"],
        "brought_by": ["club", "bringer"], "closing_days": ["club"], "link_paper": ["club", "bringer", "member"],
        "sure_links": ["club"],
    }),
    (ways, {
        "is_way": ["club", "thing"], "count_ways": ["club"], "nth_way": ["club", "index"],
        "way_index": ["club", "way"], "fair_way": ["club", "draws"],
    }),
    (known, {
        "can_hold": ["club", "links"], "span_paper": ["club", "links"], "rest_club": ["club", "links"],
        "count_with": ["club", "links"], "way_with": ["club", "links"],
    }),
    (shares, {
        "share": ["club", "bringer", "member"], "joint_share": ["club", "links"], "surest": ["club", "member"],
        "bringer_shares": ["club", "member"],
    }),
]


class InterfaceTest(unittest.TestCase):
    def test_names_arguments_and_files(self):
        for module, functions in INTERFACE:
            for name, arguments in functions.items():
                with self.subTest(name=name):
                    function = getattr(module, name)
                    self.assertTrue(inspect.isfunction(function))
                    self.assertEqual(function.__module__, module.__name__)
                    self.assertEqual(list(inspect.signature(function).parameters), arguments)


if __name__ == "__main__":
    unittest.main()
