"""The plan: who gets what of which lot, and what lacks."""

import unittest

from lines import ask, last_answer


class Plan(unittest.TestCase):
    def plan(self, calls, article=1):
        return last_answer(calls + [("plan", article)])

    def test_demands_told_in_another_order_than_their_days(self):
        calls = [("lot", 1, 0, 9, 5), ("demand", 1, 7, 2), ("demand", 1, 3, 2), ("demand", 1, 5, 2)]
        self.assertEqual(self.plan(calls), [3, 5, 2, 0, 1, 0, 2, 3, 0, 1, 0, 2, 1, 1, 1, 0, 1])

    def test_several_of_one_day_by_numbers(self):
        calls = [("lot", 1, 0, 9, 5), ("demand", 1, 4, 3), ("demand", 1, 4, 1), ("demand", 1, 4, 4)]
        self.assertEqual(self.plan(calls), [3, 5, 1, 0, 1, 0, 3, 2, 0, 1, 0, 1, 3, 3, 1, 0, 1])

    def test_several_of_one_day_by_numbers_behind_cancel(self):
        calls = [("lot", 1, 0, 9, 5)] + [("demand", 1, 4, 2)] * 11 + [("cancel", 1), ("cancel", 3)]
        calls += [("cancel", k) for k in range(4, 9)] + [("demand", 1, 4, 2), ("cancel", 9)]
        told = self.plan(calls)
        self.assertEqual(told, [4, 5, 2, 0, 1, 0, 2, 10, 0, 1, 0, 2, 11, 1, 1, 0, 1, 12, 2, 0])

    def test_the_lesser_last_day_first(self):
        calls = [("lot", 1, 0, 9, 2), ("lot", 1, 0, 5, 2), ("lot", 1, 0, 7, 2), ("demand", 1, 3, 5)]
        self.assertEqual(self.plan(calls), [1, 5, 1, 0, 3, 1, 2, 2, 2, 0, 1])

    def test_of_the_same_last_day_the_lesser_number_whenever_it_comes(self):
        calls = [("lot", 1, 3, 9, 2), ("lot", 1, 0, 9, 1), ("lot", 1, 2, 9, 4), ("demand", 1, 3, 4)]
        self.assertEqual(self.plan(calls), [1, 4, 1, 0, 3, 0, 2, 1, 1, 2, 1])

    def test_a_lot_that_comes_later(self):
        calls = [("lot", 1, 4, 4, 9), ("demand", 1, 3, 1), ("demand", 1, 4, 1)]
        self.assertEqual(self.plan(calls), [2, 1, 1, 1, 0, 2, 0, 1, 0, 1])

    def test_a_lot_that_is_past(self):
        calls = [("lot", 1, 0, 4, 9), ("demand", 1, 5, 1), ("demand", 1, 4, 1)]
        self.assertEqual(self.plan(calls), [2, 1, 2, 0, 1, 0, 1, 1, 1, 0])

    def test_the_first_and_the_last_good_day(self):
        calls = [("lot", 1, 2, 4, 9)] + [("demand", 1, day, 1) for day in range(1, 6)]
        self.assertEqual(self.plan(calls), [5, 3, 1, 1, 0, 2, 0, 1, 0, 1, 3, 0, 1, 0, 1, 4, 0, 1, 0, 1, 5, 1, 0])

    def test_a_demand_that_gets_of_several_lots_of_none_and_of_too_few(self):
        calls = [("lot", 1, 0, 5, 1), ("lot", 1, 0, 6, 2), ("lot", 1, 2, 7, 3), ("demand", 1, 3, 4)]
        calls += [("demand", 1, 8, 2), ("demand", 1, 7, 5)]
        self.assertEqual(self.plan(calls), [3, 6, 1, 0, 3, 0, 1, 1, 2, 2, 1, 3, 3, 1, 2, 2, 2, 2, 0])

    def test_lots_of_which_nothing_is_taken_are_not_told(self):
        calls = [("lot", 1, 0, 5, 2), ("lot", 1, 0, 6, 2), ("lot", 1, 0, 7, 2)] + [("demand", 1, 3, 2)] * 2
        self.assertEqual(self.plan(calls), [2, 4, 1, 0, 1, 0, 2, 2, 0, 1, 1, 2])

    def test_another_articles_lots_and_demands_do_not_count(self):
        calls = [("lot", 2, 0, 5, 9), ("lot", 1, 0, 6, 2), ("demand", 2, 0, 4), ("demand", 1, 1, 3)]
        self.assertEqual(self.plan(calls), [1, 2, 2, 1, 1, 1, 2])
        self.assertEqual(self.plan(calls, 2), [1, 4, 1, 0, 1, 0, 4])
        self.assertEqual(self.plan(calls, 3), [0, 0])

    def test_nothing_is_really_taken(self):
        stock = [("lot", 1, 0, 5, 4), ("demand", 1, 3, 3), ("demand", 1, 4, 3)]
        seen = [("told", 0), ("plan", 1), ("tight", 1), ("bears", 1, 4, 1), ("spare", 1, 4), ("told", 0)]
        first = ask(stock + seen + seen)[len(stock):]
        self.assertEqual(first[:6], first[6:])
        self.assertEqual(first[0], [1, 0, 5, 4, 4])

    def test_no_demands(self):
        self.assertEqual(self.plan([("lot", 1, 0, 5, 4)]), [0, 0])

    def test_no_lots(self):
        self.assertEqual(self.plan([("demand", 1, 5, 4)]), [1, 0, 1, 4, 0])

    def test_great_doses(self):
        calls = [("lot", 8, 0, 400, 1000)] * 3
        calls += [("demand", 8, 400, 1000), ("demand", 8, 0, 999), ("demand", 8, 1, 1000)]
        self.assertEqual(self.plan(calls, 8), [3, 2999, 2, 0, 1, 0, 999, 3, 0, 2, 0, 1, 1, 999, 1, 0, 2, 1, 1, 2, 999])


if __name__ == "__main__":
    unittest.main()
