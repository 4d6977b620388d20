"""When a stock bears so many doses more, and how many it bears at most."""

import unittest

from lines import ask, last_answer


class BearsAndSpare(unittest.TestCase):
    def spare(self, calls, day, article=1):
        """What spare tells, after a look that bears agrees on both sides of it."""
        told = last_answer(calls + [("spare", article, day)])
        self.assertEqual(len(told), 1)
        borne = told[0]
        tried = sorted({doses for doses in (1, borne - 1, borne, borne + 1, 1000) if 1 <= doses <= 1000})
        answers = ask(calls + [("bears", article, day, doses) for doses in tried])[len(calls):]
        self.assertEqual(answers, [[1 if doses <= borne else 0] for doses in tried])
        return borne

    def test_nothing_is_borne_by_nothing(self):
        self.assertEqual(self.spare([], 0), 0)
        self.assertEqual(self.spare([("lot", 2, 0, 9, 5)], 0), 0)

    def test_between(self):
        lot = [("lot", 1, 3, 6, 5)]
        self.assertEqual([self.spare(lot, day) for day in (2, 3, 6, 7)], [0, 5, 5, 0])
        self.assertEqual(self.spare([("lot", 1, 3, 6, 999)], 4), 999)

    def test_a_thousand_at_most(self):
        self.assertEqual(self.spare([("lot", 1, 3, 6, 1000)], 4), 1000)
        self.assertEqual(self.spare([("lot", 1, 3, 6, 1000)] * 3, 4), 1000)
        self.assertEqual(self.spare([("lot", 1, 3, 6, 600)] * 2 + [("demand", 1, 5, 201)], 4), 999)

    def test_what_later_demands_need_is_not_spare(self):
        calls = [("lot", 1, 0, 9, 5), ("demand", 1, 9, 3)]
        self.assertEqual([self.spare(calls, day) for day in (0, 9)], [2, 2])

    def test_a_later_demand_may_turn_to_another_lot(self):
        calls = [("lot", 1, 0, 5, 5), ("lot", 1, 4, 9, 2), ("demand", 1, 5, 3)]
        self.assertEqual([self.spare(calls, day) for day in (0, 4, 5, 6, 9)], [4, 4, 4, 2, 2])

    def test_the_new_demand_itself_lacks_nothing_but_another_does(self):
        calls = [("lot", 1, 0, 9, 4), ("demand", 1, 9, 4)]
        self.assertEqual(self.spare(calls, 0), 0)

    def test_where_the_article_lacks_something_already(self):
        calls = [("lot", 1, 0, 3, 4), ("lot", 1, 5, 9, 6), ("demand", 1, 2, 7), ("demand", 1, 6, 1)]
        self.assertEqual([self.spare(calls, day) for day in (2, 3, 4, 5, 9)], [0, 0, 0, 5, 5])

    def test_a_lack_of_the_same_lot_leaves_nothing(self):
        calls = [("lot", 1, 0, 9, 4), ("demand", 1, 2, 7)]
        self.assertEqual([self.spare(calls, day) for day in (0, 2, 9)], [0, 0, 0])

    def test_another_article_does_not_count(self):
        calls = [("lot", 1, 0, 9, 4), ("lot", 2, 0, 9, 8), ("demand", 2, 3, 7)]
        self.assertEqual([self.spare(calls, 3), self.spare(calls, 3, 2)], [4, 1])

    def test_with_forty_demands(self):
        calls = [("lot", 1, 0, 9, 43)] + [("demand", 1, 5, 1)] * 40
        self.assertEqual(self.spare(calls, 9), 3)
        self.assertEqual(self.spare(calls, 0), 3)
        calls = [("lot", 1, 0, 9, 39), ("lot", 1, 6, 9, 1000)] + [("demand", 1, 5, 1)] * 40
        self.assertEqual([self.spare(calls, day) for day in (5, 6)], [0, 1000])

    def test_they_change_nothing(self):
        calls = [("lot", 1, 0, 9, 4), ("demand", 1, 2, 1)]
        asked = [("bears", 1, 2, 3), ("bears", 1, 2, 4), ("spare", 1, 2), ("demand", 1, 2, 4), ("plan", 1)]
        self.assertEqual(ask(calls + asked)[2:], [[1], [0], [3], [2, 1], [2, 4, 1, 0, 1, 0, 1, 2, 1, 1, 0, 3]])

    def test_what_is_borne_can_be_asked(self):
        calls = [("lot", 1, 0, 5, 5), ("lot", 1, 4, 9, 2), ("demand", 1, 5, 3)]
        for day in range(10):
            borne = self.spare(calls, day)
            if borne:
                self.assertEqual(last_answer(calls + [("demand", 1, day, borne)]), [2, 0])
            self.assertEqual(last_answer(calls + [("demand", 1, day, borne + 1)]), [2, 1])


if __name__ == "__main__":
    unittest.main()
