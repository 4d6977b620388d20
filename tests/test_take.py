"""Demands that are taken on their day."""

import unittest

from lines import GREATEST, LEAST, ask, last_answer, view
from reagentstock.stock import answers


class Taken(unittest.TestCase):
    def take(self, calls, k=1):
        return last_answer(calls + [("take", k)])

    def test_whole_answer_list(self):
        given = [1, 1, 0, 5, 4, 2, 1, 0, 3, 9, 1, 5, 0, 13, 0, 4, 1, 16]
        self.assertEqual(answers(given), [
            1, 0,
            2, 1, 0,
            3, 1, 0, 3,
            5, 1, 0, 5, 1, 4,
            4, 1, 0, 0, 3,
            2, 0, 0,
            6, 0, 1, 0, 1, 0, 0,
        ])

    def test_several_lots_the_lesser_last_day_first(self):
        lots = [("lot", 1, 0, 9, 2), ("lot", 1, 0, 5, 2), ("lot", 1, 0, 7, 2)]
        self.assertEqual(self.take(lots + [("demand", 1, 0, 5)]), [3, 1, 2, 2, 2, 0, 1])
        self.assertEqual(self.take(lots + [("demand", 1, 0, 6)]), [3, 1, 2, 2, 2, 0, 2])
        self.assertEqual(self.take(lots + [("demand", 1, 0, 4)]), [2, 1, 2, 2, 2])

    def test_lots_of_the_same_last_day_by_their_numbers(self):
        lots = [("lot", 1, 2, 5, 2), ("lot", 1, 0, 5, 2), ("lot", 1, 1, 5, 2), ("today", 2)]
        self.assertEqual(self.take(lots + [("demand", 1, 2, 5)]), [3, 0, 2, 1, 2, 2, 1])

    def test_a_lot_that_comes_later_is_passed_over(self):
        lots = [("lot", 1, 1, 3, 5), ("lot", 1, 0, 9, 5)]
        self.assertEqual(self.take(lots + [("demand", 1, 0, 4)]), [1, 1, 4])
        self.assertEqual(self.take(lots + [("demand", 1, 0, 6)]), [-7])
        self.assertEqual(self.take(lots + [("demand", 1, 1, 6), ("today", 1)]), [2, 0, 5, 1, 1])

    def test_a_lot_that_is_past_is_passed_over(self):
        lots = [("lot", 1, 0, 2, 5), ("lot", 1, 0, 9, 5), ("today", 3)]
        self.assertEqual(self.take(lots + [("demand", 1, 3, 4)]), [1, 1, 4])
        self.assertEqual(self.take(lots + [("demand", 1, 3, 6)]), [-7])

    def test_the_first_and_the_last_good_day(self):
        for day in (2, 4):
            calls = [("lot", 1, 2, 4, 5), ("demand", 1, day, 5), ("today", day)]
            self.assertEqual(self.take(calls), [1, 0, 5])
        self.assertEqual(self.take([("lot", 1, 2, 4, 5), ("demand", 1, 1, 5), ("today", 1)]), [-7])

    def test_a_lot_with_nothing_left_is_passed_over(self):
        calls = [("lot", 1, 0, 2, 5), ("lot", 1, 0, 3, 5), ("lot", 1, 0, 9, 5), ("use", 1, 5), ("withdraw", 1)]
        self.assertEqual(self.take(calls + [("demand", 1, 0, 4)]), [1, 2, 4])

    def test_another_articles_lots_do_not_count(self):
        calls = [("lot", 2, 0, 2, 5), ("lot", 1, 0, 9, 3), ("demand", 1, 0, 4), ("demand", 1, 0, 3)]
        self.assertEqual([self.take(calls), self.take(calls, 2)], [[-7], [1, 1, 3]])

    def test_the_demand_is_gone(self):
        calls = [("lot", 1, 0, 9, 9), ("demand", 1, 0, 4), ("demand", 1, 0, 3), ("take", 1), ("take", 1), ("cancel", 1)]
        calls += [("plan", 1), ("demand", 1, 0, 1), ("counts",)]
        self.assertEqual(ask(calls)[3:], [
            [1, 0, 4], [-4], [-4], [1, 3, 2, 0, 1, 0, 3], [3, 0], [0, 1, 2, 1, 0, 0],
        ])

    def test_room_again_behind_take(self):
        calls = [("lot", 1, 0, 9, 9)] + [("demand", 1, 0, 1)] * 40
        calls += [("take", 40), ("demand", 1, 0, 1), ("demand", 1, 0, 1)]
        self.assertEqual(ask(calls)[41:], [[1, 0, 1], [41, 32], [-2]])

    def test_the_use_gets_its_number_and_its_day(self):
        calls = [("lot", 1, 0, 9, 9), ("demand", 1, 0, 2), ("demand", 1, 3, 4), ("take", 1), ("today", 3), ("take", 2)]
        self.assertEqual(last_answer(calls + [("used_from", 0)]), [2, 0, 0, 2, 1, 3, 4])

    def test_a_thousand_doses(self):
        calls = [("lot", 1, 0, 9, 600), ("lot", 1, 0, 9, 400), ("demand", 1, 0, 1000)]
        self.assertEqual(self.take(calls), [2, 0, 600, 1, 400])
        calls = [("lot", 1, 0, 9, 600), ("lot", 1, 0, 9, 399), ("demand", 1, 0, 1000)]
        self.assertEqual(self.take(calls), [-7])


class WhateverElseIsAsked(unittest.TestCase):
    def test_a_demand_that_lacks_in_the_plan_may_be_taken(self):
        calls = [("lot", 1, 0, 9, 4), ("demand", 1, 0, 3), ("demand", 1, 0, 3), ("plan", 1), ("take", 2), ("plan", 1)]
        calls += [("take", 1), ("told", 0)]
        self.assertEqual(ask(calls)[3:], [
            [2, 4, 1, 0, 1, 0, 3, 2, 2, 1, 0, 1], [1, 0, 3], [1, 1, 1, 2, 1, 0, 1], [-7], [1, 0, 9, 1, 4],
        ])

    def test_later_demands_do_not_hinder_it(self):
        calls = [("lot", 1, 0, 9, 4), ("demand", 1, 5, 4), ("demand", 1, 0, 4), ("take", 2), ("plan", 1)]
        self.assertEqual(ask(calls)[2:], [[2, 4], [1, 0, 4], [1, 0, 1, 4, 0]])

    def test_one_dose_too_few(self):
        calls = [("lot", 1, 0, 9, 4), ("lot", 1, 0, 9, 3), ("demand", 1, 0, 7), ("demand", 1, 0, 8)]
        self.assertEqual(ask(calls + [("take", 2), ("take", 1)])[4:], [[-7], [2, 0, 4, 1, 3]])


class Refused(unittest.TestCase):
    def test_no_such_demand_comes_first(self):
        calls = [("lot", 1, 0, 9, 4), ("demand", 1, 0, 3), ("demand", 1, 4, 3), ("cancel", 2), ("demand", 1, 1, 9)]
        for k in (0, -1, 2, 4, LEAST, GREATEST):
            self.assertEqual(last_answer(calls + [("take", k)]), [-4])

    def test_another_day_comes_before_too_few(self):
        calls = [("lot", 1, 0, 9, 4), ("demand", 1, 1, 5), ("take", 1), ("today", 1), ("take", 1), ("today", 2)]
        calls += [("take", 1)]
        self.assertEqual(ask(calls)[2:], [[-5], [0, 0], [-7], [0, 1], [-4]])

    def test_another_day_where_there_is_enough(self):
        calls = [("lot", 1, 0, 9, 4), ("demand", 1, 1, 4), ("take", 1), ("today", 1), ("take", 1)]
        self.assertEqual(ask(calls)[2:], [[-5], [0, 0], [1, 0, 4]])

    def test_nothing_changes(self):
        stock = [("lot", 1, 0, 9, 4), ("lot", 1, 0, 4, 2), ("demand", 1, 0, 7), ("demand", 1, 1, 3)]
        stock += [("demand", 1, 0, 1)]
        seen = view(2) + [("take", 3), ("demand", 1, 0, 1), ("today", 1), ("take", 2)] + view(2)
        for k, refusal in ((4, -4), (2, -5), (1, -7)):
            told = ask(stock + [("take", k)] + seen)
            self.assertEqual(told[5], [refusal])
            self.assertEqual(told[6:], ask(stock + seen)[5:])


if __name__ == "__main__":
    unittest.main()
