"""The days that together ask too much."""

import unittest

from lines import ask


class Tight(unittest.TestCase):
    def tight(self, calls, article=1):
        """What tight tells, after a look that it agrees with what the article lacks."""
        told, plan = ask(calls + [("tight", article), ("plan", article)])[-2:]
        days = told[1:1 + told[0]]
        self.assertEqual(len(told), told[0] + 3)
        self.assertEqual(days, sorted(set(days)))
        asked = sum(call[3] for call in calls if call[:2] == ("demand", article))
        self.assertEqual(told[-2] - told[-1], asked - plan[1])
        return told

    def test_nothing_lacks(self):
        self.assertEqual(self.tight([]), [0, 0, 0])
        self.assertEqual(self.tight([("lot", 1, 0, 5, 4)]), [0, 0, 0])
        self.assertEqual(self.tight([("lot", 1, 0, 5, 4), ("demand", 1, 3, 4)]), [0, 0, 0])

    def test_one_day(self):
        self.assertEqual(self.tight([("demand", 1, 3, 5)]), [1, 3, 5, 0])
        self.assertEqual(self.tight([("lot", 1, 0, 5, 4), ("demand", 1, 3, 5)]), [1, 3, 5, 4])

    def test_a_day_of_several_demands_is_told_once(self):
        calls = [("lot", 1, 0, 5, 4)] + [("demand", 1, 3, 3)] * 3
        self.assertEqual(self.tight(calls), [1, 3, 9, 4])

    def test_all_demands_of_a_day_are_asked_on_it(self):
        calls = [("lot", 1, 0, 5, 4), ("demand", 1, 3, 4), ("demand", 1, 3, 1)]
        self.assertEqual(self.tight(calls), [1, 3, 5, 4])

    def test_two_days_that_share_no_lot(self):
        calls = [("lot", 1, 0, 3, 4), ("lot", 1, 6, 9, 2), ("demand", 1, 7, 5), ("demand", 1, 2, 5)]
        self.assertEqual(self.tight(calls), [2, 2, 7, 10, 6])

    def test_a_day_that_gets_of_a_lot_good_on_one_of_them(self):
        calls = [("lot", 1, 0, 9, 4), ("demand", 1, 5, 3), ("demand", 1, 2, 3)]
        self.assertEqual(self.tight(calls), [2, 2, 5, 6, 4])

    def test_a_day_that_asks_nothing_of_their_lots_is_not_told(self):
        calls = [("lot", 1, 0, 2, 4), ("lot", 1, 3, 9, 4), ("demand", 1, 1, 4), ("demand", 1, 5, 5)]
        self.assertEqual(self.tight(calls), [1, 5, 5, 4])

    def test_a_day_on_which_their_lots_are_good_but_not_taken_from_is_not_told(self):
        calls = [("lot", 1, 0, 2, 4), ("lot", 1, 0, 9, 4), ("demand", 1, 1, 4), ("demand", 1, 5, 5)]
        self.assertEqual(self.tight(calls), [1, 5, 5, 4])

    def test_days_reached_over_several_lots_again_and_again(self):
        calls = [("lot", 1, day, day + 1, 1) for day in range(10, 17)]
        calls += [("demand", 1, day, 1) for day in (14, 11, 17, 10, 16, 12, 15, 13)]
        self.assertEqual(self.tight(calls), [8, 10, 11, 12, 13, 14, 15, 16, 17, 8, 7])

    def test_the_chain_ends_where_no_lot_is_drawn_on(self):
        calls = [("lot", 1, day, day + 1, 1) for day in range(10, 17)] + [("lot", 1, 13, 13, 1)]
        calls += [("demand", 1, day, 1) for day in (14, 11, 17, 10, 16, 12, 15, 13, 14)]
        self.assertEqual(self.tight(calls), [4, 14, 15, 16, 17, 5, 4])

    def test_a_lot_good_on_several_of_them_counts_once(self):
        calls = [("lot", 1, 0, 9, 4)] + [("demand", 1, day, 2) for day in (1, 3, 5)]
        self.assertEqual(self.tight(calls), [3, 1, 3, 5, 6, 4])

    def test_a_lot_good_between_them_only_does_not_count(self):
        calls = [("lot", 1, 0, 9, 4), ("lot", 1, 2, 2, 7), ("demand", 1, 1, 3), ("demand", 1, 3, 3)]
        self.assertEqual(self.tight(calls), [2, 1, 3, 6, 4])

    def test_another_article_does_not_count(self):
        calls = [("lot", 1, 0, 9, 4), ("lot", 2, 0, 9, 2)]
        calls += [("demand", 1, 3, 5), ("demand", 2, 3, 4), ("demand", 2, 5, 1)]
        self.assertEqual(self.tight(calls), [1, 3, 5, 4])
        self.assertEqual(self.tight(calls, 2), [2, 3, 5, 5, 2])
        self.assertEqual(self.tight(calls, 3), [0, 0, 0])

    def test_forty_days(self):
        calls = [("lot", 1, day, day + 1, 1) for day in range(39)]
        calls += [("demand", 1, day, 1) for day in reversed(range(40))]
        self.assertEqual(self.tight(calls), [40] + list(range(40)) + [40, 39])


if __name__ == "__main__":
    unittest.main()
