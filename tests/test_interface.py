import inspect
import unittest

from broughtin import (
    alike, clubs, families, groups, known, lines, links, live, reports, session, sets, shares, slips, texts, unsure,
    ways,
)

# The functions that the document lists, with their arguments.
INTERFACE = [
    (clubs, {
        "is_club": ["thing"], "days_in": ["club"], "brought_in": ["club"], "slots_ahead": ["club", "day"],
        "free_at": ["club", "day"], "slack_at": ["club", "day"], "conflict_of": ["club"],
        "shows_conflict": ["club", "thing"],
    }),
    (links, {
        "can_bring": ["club", "bringer", "member"], "bringers_of": ["club", "member"],
        "brought_by": ["club", "bringer"], "closing_days": ["club"], "link_paper": ["club", "bringer", "member"],
        "sure_links": ["club"],
    }),
    (ways, {
        "is_way": ["club", "thing"], "count_ways": ["club"], "nth_way": ["club", "index"],
        "way_index": ["club", "way"], "fair_way": ["club", "draws"],
    }),
    (known, {
        "can_hold": ["club", "links"], "span_paper": ["club", "links"], "rest_club": ["club", "links"],
        "count_with": ["club", "links"], "way_with": ["club", "links"],
    }),
    (shares, {
        "share": ["club", "bringer", "member"], "joint_share": ["club", "links"], "surest": ["club", "member"],
        "bringer_shares": ["club", "member"],
    }),
    (lines, {
        "can_descend": ["club", "above", "below"], "descend_paper": ["club", "above", "below"],
        "step_range": ["club", "above", "below"], "line_with": ["club", "above", "below", "steps"],
        "depths_of": ["club", "member"], "generations": ["club"], "descent_share": ["club", "above", "below"],
        "depth_shares": ["club", "member"], "mean_below": ["club", "member"],
    }),
    (sets, {
        "can_have_brought": ["club", "bringer", "group"], "set_paper": ["club", "bringer", "group"],
        "count_sets": ["club", "bringer"], "nth_set": ["club", "bringer", "index"],
        "set_index": ["club", "bringer", "group"], "set_share": ["club", "bringer", "group"],
        "second_sums": ["club", "bringer"], "second_range": ["club", "bringer"],
    }),
    (groups, {
        "group_range": ["club", "bringers", "members"], "group_way": ["club", "bringers", "members", "number"],
        "group_mean": ["club", "bringers", "members"],
    }),
    (families, {
        "family_sizes": ["club", "member"], "family_way": ["club", "member", "size"],
        "family_shares": ["club", "member"], "can_be_family": ["club", "member", "group"],
        "family_paper": ["club", "member", "group"], "can_share_root": ["club", "one", "two"],
    }),
    (unsure, {
        "is_unsure_club": ["thing"], "choice_of": ["club"], "can_be_brought": ["club", "member"],
        "must_be_brought": ["club", "member"], "count_choices": ["club"], "count_all_ways": ["club"],
        "nth_any_way": ["club", "index"], "came_share": ["club", "member"],
    }),
    (slips, {
        "one_number": ["club"], "two_numbers": ["club"], "one_came": ["club"], "one_day": ["club", "member"],
    }),
    (reports, {
        "is_sheet": ["thing"], "stretch_clubs": ["sheet"], "report_conflict": ["sheet"], "report_ways": ["sheet"],
        "report_bringers": ["sheet", "member"], "fewer_by": ["sheet"],
    }),
    (alike, {
        "same_ways": ["club", "other"], "parting_way": ["club", "other"], "plain_club": ["club"],
    }),
    (texts, {
        "write_club": ["club"], "read_club": ["text"], "write_way": ["way"], "read_way": ["text"],
        "write_links": ["links"], "read_links": ["text"],
    }),
    (session, {"session": ["rows"]}),
]

# The methods of a door with their arguments, and its properties.
METHODS = {
    "__init__": [], "enter": ["day", "came"], "tell": ["member", "number"], "ticket": ["bringer", "member"],
    "undo": [], "mark": [], "undo_to": ["index"], "twin": [], "__len__": [],
}
PROPERTIES = ["club", "tickets", "ways"]


class InterfaceTest(unittest.TestCase):
    def test_names_arguments_and_files(self):
        for module, functions in INTERFACE:
            for name, arguments in functions.items():
                with self.subTest(name=name):
                    function = getattr(module, name)
                    self.assertTrue(inspect.isfunction(function))
                    self.assertEqual(function.__module__, module.__name__)
                    self.assertEqual(list(inspect.signature(function).parameters), arguments)

    def test_the_class_of_doors(self):
        self.assertTrue(inspect.isclass(live.Door))
        self.assertEqual(live.Door.__module__, live.__name__)
        for name, arguments in METHODS.items():
            with self.subTest(name=name):
                # vars holds what stands in the body of the class itself.
                method = vars(live.Door)[name]
                self.assertTrue(inspect.isfunction(method))
                self.assertEqual(list(inspect.signature(method).parameters), ["self"] + arguments)
        for name in PROPERTIES:
            self.assertIsInstance(vars(live.Door)[name], property)


if __name__ == "__main__":
    unittest.main()
