"""Doses that are used at once, if nothing lacks more by it."""

import unittest

from lines import GREATEST, LEAST, ask, last_answer, view
from reagentstock.stock import answers


class Used(unittest.TestCase):
    def use(self, calls, doses, article=1):
        return last_answer(calls + [("use", article, doses)])

    def test_whole_answer_list(self):
        given = [1, 1, 0, 5, 4, 1, 1, 0, 3, 2, 10, 1, 3, 10, 1, 4, 13, 0, 13, 1, 5, 0, 5, 1, 16]
        self.assertEqual(answers(given), [
            1, 0,
            1, 1,
            5, 2, 1, 2, 0, 1,
            1, -7,
            4, 1, 0, 0, 1,
            4, 1, 0, 0, 2,
            5, 1, 0, 5, 3, 4,
            5, 1, 0, 3, 0, 2,
            6, 0, 2, 0, 1, 0, 0,
        ])

    def test_several_lots(self):
        lots = [("lot", 1, 0, 9, 2), ("lot", 1, 0, 5, 2), ("lot", 1, 0, 7, 2), ("lot", 1, 0, 5, 1)]
        self.assertEqual(self.use(lots, 1), [1, 1, 1])
        self.assertEqual(self.use(lots, 3), [2, 1, 2, 3, 1])
        self.assertEqual(self.use(lots, 6), [4, 1, 2, 3, 1, 2, 2, 0, 1])
        self.assertEqual(self.use(lots, 7), [4, 1, 2, 3, 1, 2, 2, 0, 2])
        self.assertEqual(self.use(lots, 8), [-7])

    def test_one_use_after_another(self):
        calls = [("lot", 1, 0, 9, 4), ("lot", 1, 0, 5, 3)] + [("use", 1, 2)] * 4
        self.assertEqual(ask(calls)[2:], [[1, 1, 2], [2, 1, 1, 0, 1], [1, 0, 2], [-7]])

    def test_lots_that_come_later_or_are_past(self):
        calls = [("lot", 1, 3, 4, 9), ("lot", 1, 0, 1, 9), ("lot", 1, 2, 2, 9), ("lot", 1, 0, 9, 9), ("today", 2)]
        self.assertEqual(self.use(calls, 10), [2, 2, 9, 3, 1])
        self.assertEqual(self.use(calls, 18), [2, 2, 9, 3, 9])
        self.assertEqual(self.use(calls, 19), [-7])

    def test_another_articles_lots_and_demands_do_not_count(self):
        calls = [("lot", 2, 0, 2, 5), ("lot", 1, 0, 9, 3), ("demand", 2, 0, 5)]
        self.assertEqual([self.use(calls, 3), self.use(calls, 4), self.use(calls, 1, 2)], [[1, 1, 3], [-7], [-9]])

    def test_a_thousand_doses(self):
        calls = [("lot", 8, 0, 400, 1000), ("lot", 8, 0, 400, 1000), ("use", 8, 1000), ("use", 8, 999), ("use", 8, 2)]
        self.assertEqual(ask(calls)[2:], [[1, 0, 1000], [1, 1, 999], [-7]])


class WhatWasPromised(unittest.TestCase):
    def use(self, calls, doses):
        return last_answer(calls + [("use", 1, doses)])

    def test_just_what_a_later_demand_needs(self):
        calls = [("lot", 1, 0, 9, 5), ("demand", 1, 9, 3)]
        told = [self.use(calls, doses) for doses in (1, 2, 3, 5, 6)]
        self.assertEqual(told, [[1, 0, 1], [1, 0, 2], [-9], [-9], [-7]])

    def test_a_demand_of_today(self):
        calls = [("lot", 1, 0, 9, 5), ("demand", 1, 0, 3)]
        self.assertEqual([self.use(calls, doses) for doses in (2, 3)], [[1, 0, 2], [-9]])

    def test_a_later_demand_may_turn_to_another_lot(self):
        calls = [("lot", 1, 0, 5, 5), ("lot", 1, 4, 9, 2), ("demand", 1, 5, 3)]
        self.assertEqual([self.use(calls, doses) for doses in (4, 5)], [[1, 0, 4], [-9]])
        told = ask(calls + [("use", 1, 4), ("plan", 1)])[-1]
        self.assertEqual(told, [1, 3, 1, 0, 2, 0, 1, 1, 2])

    def test_a_chain_of_demands_turns_to_other_lots(self):
        calls = [("lot", 1, 0, 2, 1), ("lot", 1, 2, 4, 1), ("lot", 1, 4, 6, 1), ("demand", 1, 2, 1)]
        calls += [("demand", 1, 4, 1)]
        self.assertEqual(self.use(calls, 1), [1, 0, 1])
        self.assertEqual(self.use(calls + [("demand", 1, 6, 1)], 1), [-9])

    def test_a_demand_behind_the_lots_last_day_does_not_hinder(self):
        calls = [("lot", 1, 0, 5, 5), ("demand", 1, 6, 3)]
        self.assertEqual(self.use(calls, 5), [1, 0, 5])

    def test_where_the_article_lacks_something_already(self):
        calls = [("lot", 1, 0, 3, 4), ("demand", 1, 6, 7)]
        self.assertEqual([self.use(calls, doses) for doses in (4, 5)], [[1, 0, 4], [-7]])
        calls = [("lot", 1, 0, 9, 4), ("demand", 1, 6, 7)]
        self.assertEqual(self.use(calls, 1), [-9])
        calls = [("lot", 1, 0, 3, 4), ("lot", 1, 0, 9, 6), ("demand", 1, 2, 2), ("demand", 1, 8, 7)]
        self.assertEqual([self.use(calls, doses) for doses in (2, 3)], [[1, 0, 2], [-9]])

    def test_what_is_spare_today_may_be_used(self):
        calls = [("lot", 1, 0, 5, 5), ("lot", 1, 4, 9, 2), ("lot", 1, 1, 3, 2), ("demand", 1, 5, 3)]
        calls += [("demand", 1, 2, 1)]
        for day in range(6):
            before = calls + [("today", day)]
            borne = last_answer(before + [("spare", 1, day)])[0]
            if borne:
                self.assertGreater(self.use(before, borne)[0], 0)
            self.assertLess(self.use(before, borne + 1)[0], 0)


class Refused(unittest.TestCase):
    def test_out_of_range_comes_first(self):
        calls = [("lot", 1, 0, 9, 5), ("demand", 1, 9, 5)]
        wrong = [("use", 0, 9), ("use", 9, 9), ("use", 1, 0), ("use", 1, 1001), ("use", 1, -1)]
        wrong += [("use", LEAST, 1), ("use", GREATEST, 1), ("use", 1, LEAST), ("use", 1, GREATEST)]
        self.assertEqual(ask(calls + wrong)[2:], [[-1]] * len(wrong))

    def test_too_few_comes_before_lacking_more(self):
        calls = [("lot", 1, 0, 9, 5), ("demand", 1, 9, 5)]
        self.assertEqual(ask(calls + [("use", 1, 6), ("use", 1, 5)])[2:], [[-7], [-9]])
        self.assertEqual(ask([("demand", 1, 9, 5), ("use", 1, 1), ("use", 1, 1000)])[1:], [[-7], [-7]])

    def test_nothing_changes(self):
        stock = [("lot", 1, 0, 9, 4), ("lot", 1, 0, 4, 2), ("demand", 1, 0, 1), ("demand", 1, 7, 3)]
        seen = view(2) + [("use", 1, 1), ("take", 1), ("demand", 1, 0, 1), ("today", 1)] + view(2)
        for call, refusal in ((("use", 9, 1), -1), (("use", 1, 0), -1), (("use", 1, 7), -7), (("use", 1, 3), -9)):
            told = ask(stock + [call] + seen)
            self.assertEqual(told[4], [refusal])
            self.assertEqual(told[5:], ask(stock + seen)[4:])


if __name__ == "__main__":
    unittest.main()
