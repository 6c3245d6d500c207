import inspect
import unittest

from broughtin import clubs, families, groups, known, lines, links, sets, shares, ways

# The functions that the document lists, with their arguments.
INTERFACE = [
    (clubs, {
        "is_club": ["thing"], "days_in": ["club"], "brought_in": ["club"], "slots_ahead": ["club", "day"],
        "free_at": ["club", "day"], "slack_at": ["club", "day"], "conflict_of": ["club"],
        "shows_conflict": ["club", "thing"],
    }),
    (links, {
        "can_bring": ["club", "bringer", "member"], "bringers_of": ["club", "member"],
        "brought_by": ["club", "bringer"], "closing_days": ["club"], "link_paper": ["club", "bringer", "member"],
        "sure_links": ["club"],
    }),
    (ways, {
        "is_way": ["club", "thing"], "count_ways": ["club"], "nth_way": ["club", "index"],
        "way_index": ["club", "way"], "fair_way": ["club", "draws"],
    }),
    (known, {
        "can_hold": ["club", "links"], "span_paper": ["club", "links"], "rest_club": ["club", "links"],
        "count_with": ["club", "links"], "way_with": ["club", "links"],
    }),
    (shares, {
        "share": ["club", "bringer", "member"], "joint_share": ["club", "links"], "surest": ["club", "member"],
        "bringer_shares": ["club", "member"],
    }),
    (lines, {
        "can_descend": ["club", "above", "below"], "descend_paper": ["club", "above", "below"],
        "step_range": ["club", "above", "below"], "line_with": ["club", "above", "below", "steps"],
        "depths_of": ["club", "member"], "generations": ["club"], "descent_share": ["club", "above", "below"],
        "depth_shares": ["club", "member"], "mean_below": ["club", "member"],
    }),
    (sets, {
        "can_have_brought": ["club", "bringer", "group"], "set_paper": ["club", "bringer", "group"],
        "count_sets": ["club", "bringer"], "nth_set": ["club", "bringer", "index"],
        "set_index": ["club", "bringer", "group"], "set_share": ["club", "bringer", "group"],
        "second_sums": ["club", "bringer"], "second_range": ["club", "bringer"],
    }),
    (groups, {
        "group_range": ["club", "bringers", "members"], "group_way": ["club", "bringers", "members", "number"],
        "group_mean": ["club", "bringers", "members"],
    }),
    (families, {
        "family_sizes": ["club", "member"], "family_way": ["club", "member", "size"],
        "family_shares": ["club", "member"], "can_be_family": ["club", "member", "group"],
        "family_paper": ["club", "member", "group"], "can_share_root": ["club", "one", "two"],
    }),
]


class InterfaceTest(unittest.TestCase):
    def test_names_arguments_and_files(self):
        for module, functions in INTERFACE:
            for name, arguments in functions.items():
                with self.subTest(name=name):
                    function = getattr(module, name)
                    self.assertTrue(inspect.isfunction(function))
                    self.assertEqual(function.__module__, module.__name__)
                    self.assertEqual(list(inspect.signature(function).parameters), arguments)


if __name__ == "__main__":
    unittest.main()
