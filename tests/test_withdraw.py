"""Withdrawn lots, and who had of a lot."""

import unittest

from lines import GREATEST, LEAST, ask, last_answer, view
from reagentstock.stock import answers

NUMBERS = (-1, 2, 3, -2, LEAST, GREATEST)


class Withdrawn(unittest.TestCase):
    def test_whole_answer_list(self):
        given = [1, 1, 0, 5, 4, 1, 1, 0, 3, 2, 2, 1, 2, 5, 10, 1, 1, 12, 0, 12, 1, 4, 1, 5, 0, 5, 1, 16]
        self.assertEqual(answers(given), [
            1, 0,
            1, 1,
            2, 1, 0,
            3, 1, 1, 1,
            2, 4, 4,
            2, 1, 5,
            5, 1, 0, 1, 5, 0,
            5, 1, 0, 5, 0, 4,
            5, 1, 0, 3, 0, 2,
            6, 0, 2, 1, 1, 0, 5,
        ])

    def test_a_lot_with_nothing_left(self):
        calls = [("lot", 1, 0, 5, 4), ("use", 1, 4), ("demand", 1, 5, 3), ("withdraw", 0), ("counts",)]
        self.assertEqual(ask(calls)[3:], [[0, 3], [0, 1, 1, 1, 0, 0]])

    def test_twice_the_same(self):
        calls = [("lot", 1, 0, 5, 4), ("demand", 1, 5, 3), ("withdraw", 0), ("withdraw", 0), ("counts",)]
        self.assertEqual(ask(calls)[2:], [[4, 3], [0, 3], [0, 1, 1, 0, 0, 4]])

    def test_a_lot_that_was_thrown_away(self):
        calls = [("lot", 1, 0, 5, 4), ("today", 6), ("withdraw", 0), ("counts",)]
        self.assertEqual(ask(calls)[1:], [[4, 0], [0, 0], [6, 1, 0, 0, 4, 0]])

    def test_a_lot_that_was_withdrawn_is_not_thrown_away(self):
        calls = [("lot", 1, 0, 5, 4), ("withdraw", 0), ("today", 6), ("counts",)]
        self.assertEqual(ask(calls)[1:], [[4, 0], [0, 0], [6, 1, 0, 0, 0, 4]])

    def test_a_lot_that_comes_later(self):
        calls = [("lot", 1, 3, 5, 4), ("demand", 1, 4, 4), ("withdraw", 0), ("today", 3), ("use", 1, 1)]
        self.assertEqual(ask(calls)[1:], [[1, 0], [4, 4], [0, 0], [-7]])

    def test_what_its_article_lacks_where_other_lots_help(self):
        calls = [("lot", 1, 0, 5, 4), ("lot", 1, 3, 9, 3), ("demand", 1, 4, 2), ("demand", 1, 7, 2), ("withdraw", 0)]
        self.assertEqual(ask(calls + [("plan", 1)])[4:], [[4, 1], [2, 3, 1, 0, 1, 1, 2, 2, 1, 1, 1, 1]])

    def test_another_article_does_not_count(self):
        calls = [("lot", 1, 0, 5, 4), ("lot", 2, 0, 5, 7), ("demand", 1, 4, 2), ("demand", 2, 4, 6), ("withdraw", 1)]
        calls += [("plan", 1), ("withdraw", 0), ("counts",)]
        self.assertEqual(ask(calls)[4:], [[7, 6], [1, 2, 1, 0, 1, 0, 2], [4, 2], [0, 2, 2, 0, 0, 11]])

    def test_a_withdrawn_lot_keeps_its_number_and_its_place(self):
        calls = [("lot", 1, 0, 5, 4)] * 40 + [("withdraw", 39), ("lot", 1, 0, 5, 4), ("told", 39)]
        self.assertEqual(ask(calls)[40:], [[4, 0], [-2], [1, 0, 5, 0, 4]])

    def test_the_number_of_a_lot(self):
        stock = [("lot", 1, 0, 5, 4), ("lot", 1, 0, 6, 5), ("demand", 1, 4, 2)]
        self.assertEqual([last_answer(stock + [("withdraw", i)]) for i in (0, 1)], [[4, 0], [5, 0]])
        for i in NUMBERS:
            told = ask(stock + [("withdraw", i)] + view(2))
            self.assertEqual(told[3], [-1])
            self.assertEqual(told[4:], ask(stock + view(2))[3:])
        self.assertEqual(ask([("withdraw", 0)]), [[-1]])


class UsedFrom(unittest.TestCase):
    def test_whole_answer_list(self):
        given = [1, 1, 0, 5, 4, 1, 1, 0, 3, 2, 1, 1, 4, 9, 9, 10, 1, 3, 11, 2, 10, 1, 1, 13, 0, 13, 1, 13, 2]
        self.assertEqual(answers(given), [
            1, 0,
            1, 1,
            1, 2,
            5, 2, 1, 2, 0, 1,
            2, 0, 0,
            3, 1, 0, 1,
            7, 2, 0, 0, 1, 1, 2, 1,
            4, 1, 0, 0, 2,
            1, 0,
        ])

    def test_takes_and_uses_are_numbered_together_over_all_articles(self):
        calls = [("lot", 1, 0, 9, 4), ("lot", 2, 0, 9, 4), ("use", 2, 1), ("demand", 1, 0, 2), ("take", 1)]
        calls += [("use", 2, 2)]
        calls += [("use", 1, 1), ("used_from", 0), ("used_from", 1)]
        self.assertEqual(ask(calls)[7:], [[2, 1, 0, 2, 3, 0, 1], [2, 0, 0, 1, 2, 0, 2]])

    def test_refused_takes_and_uses_have_no_number(self):
        calls = [("lot", 1, 0, 9, 4), ("demand", 1, 1, 1), ("use", 1, 4), ("use", 1, 5), ("take", 1), ("take", 2)]
        calls += [("use", 1, 3), ("used_from", 0), ("counts",)]
        self.assertEqual(ask(calls)[2:], [[-9], [-7], [-5], [-4], [1, 0, 3], [1, 0, 0, 3], [0, 1, 1, 1, 0, 0]])

    def test_of_a_lot_that_was_thrown_away_or_withdrawn_since(self):
        calls = [("lot", 1, 0, 1, 4), ("lot", 1, 0, 9, 4), ("use", 1, 3), ("today", 1), ("use", 1, 2), ("withdraw", 1)]
        calls += [("today", 2), ("used_from", 0), ("used_from", 1)]
        self.assertEqual(ask(calls)[2:], [
            [1, 0, 3], [0, 0], [2, 0, 1, 1, 1], [3, 0], [0, 0], [2, 0, 0, 3, 1, 1, 1], [1, 1, 1, 1],
        ])
        calls = [("lot", 1, 0, 1, 4), ("use", 1, 3), ("today", 2), ("used_from", 0), ("told", 0)]
        self.assertEqual(ask(calls)[2:], [[1, 0], [1, 0, 0, 3], [1, 0, 1, 0, 4]])

    def test_what_is_planned_is_not_used(self):
        calls = [("lot", 1, 0, 9, 4), ("demand", 1, 0, 2), ("plan", 1), ("used_from", 0)]
        self.assertEqual(last_answer(calls), [0])

    def test_clear_forgets_the_uses(self):
        calls = [("lot", 1, 0, 9, 4), ("use", 1, 2), ("clear",), ("used_from", 0), ("lot", 1, 0, 9, 4)]
        calls += [("used_from", 0)]
        calls += [("use", 1, 1), ("used_from", 0)]
        self.assertEqual(ask(calls)[3:], [[-1], [0], [0], [1, 0, 1], [1, 0, 0, 1]])

    def test_the_number_of_a_lot(self):
        stock = [("lot", 1, 0, 5, 4), ("lot", 1, 0, 6, 5), ("use", 1, 6)]
        self.assertEqual([last_answer(stock + [("used_from", i)]) for i in (0, 1)], [[1, 0, 0, 4], [1, 0, 0, 2]])
        for i in NUMBERS:
            told = ask(stock + [("used_from", i)] + view(2))
            self.assertEqual(told[3], [-1])
            self.assertEqual(told[4:], ask(stock + view(2))[3:])
        self.assertEqual(ask([("used_from", 0)]), [[-1]])


if __name__ == "__main__":
    unittest.main()
