"""Each call at ordinary inputs, at the edges of its ranges and with wrong inputs."""

import unittest

from lines import GREATEST, LEAST, ask, last_answer, view
from reagentstock.stock import answers

ARTICLES = {0: False, 1: True, 8: True, 9: False, LEAST: False, GREATEST: False, -1: False}
DAYS = {-1: False, 0: True, 400: True, 401: False, LEAST: False, GREATEST: False}
DOSES = {0: False, 1: True, 1000: True, 1001: False, -1: False, LEAST: False, GREATEST: False}


class Ordinary(unittest.TestCase):
    def test_whole_answer_list(self):
        given = [
            1, 1, 0, 10, 5,
            1, 1, 2, 6, 4,
            2, 1, 3, 6,
            2, 1, 8, 5,
            4, 1,
            5, 1,
            6, 1,
            7, 1, 8, 1,
            8, 1, 2,
            3, 2,
            8, 1, 8,
            7, 1, 8, 3,
            0,
            4, 1,
        ]
        self.assertEqual(answers(given), [
            1, 0,
            1, 1,
            2, 1, 0,
            2, 2, 2,
            14, 2, 9, 1, 0, 2, 1, 4, 0, 2, 2, 2, 1, 0, 3,
            5, 1, 2, 6, 4, 4,
            5, 2, 3, 8, 11, 9,
            1, 0,
            1, 0,
            1, 5,
            1, 3,
            1, 1,
            1, 0,
            2, 0, 0,
        ])

    def test_whole_answer_list_of_the_calls_that_use_and_count(self):
        given = [
            1, 1, 0, 2, 5,
            1, 1, 1, 6, 4,
            1, 2, 0, 9, 3,
            2, 1, 0, 2,
            2, 1, 4, 3,
            14, 1,
            9, 1,
            10, 1, 2,
            11, 1,
            10, 1, 3,
            10, 1, 2,
            13, 0,
            11, 3,
            16,
            12, 1,
            14, 1,
            13, 1,
            15, 2, 2, 3, 1, 0, 2,
            16,
            5, 1,
        ]
        self.assertEqual(answers(given), [
            1, 0,
            1, 1,
            1, 2,
            2, 1, 0,
            2, 2, 0,
            1, 4,
            3, 1, 0, 2,
            3, 1, 0, 2,
            2, 0, 0,
            1, -9,
            5, 2, 0, 1, 1, 1,
            10, 3, 0, 0, 2, 1, 0, 2, 2, 1, 1,
            2, 0, 0,
            6, 3, 3, 1, 3, 0, 0,
            2, 3, 3,
            1, 0,
            4, 1, 2, 1, 1,
            3, 2, 0, 2,
            6, 3, 3, 1, 3, 0, 3,
            5, 1, 1, 6, 0, 4,
        ])

    def test_every_call_may_come_first(self):
        self.assertEqual(answers([0]), [1, 0])
        self.assertEqual(answers([1, 3, 4, 4, 9]), [1, 0])
        self.assertEqual(answers([2, 3, 4, 9]), [2, 1, 9])
        self.assertEqual(answers([3, 1]), [1, -4])
        self.assertEqual(answers([4, 3]), [2, 0, 0])
        self.assertEqual(answers([5, 0]), [1, -1])
        self.assertEqual(answers([6, 3]), [3, 0, 0, 0])
        self.assertEqual(answers([7, 3, 4, 1]), [1, 0])
        self.assertEqual(answers([8, 3, 4]), [1, 0])
        self.assertEqual(answers([9, 1]), [1, -4])
        self.assertEqual(answers([10, 3, 1]), [1, -7])
        self.assertEqual(answers([11, 7]), [2, 0, 0])
        self.assertEqual(answers([12, 0]), [1, -1])
        self.assertEqual(answers([13, 0]), [1, -1])
        self.assertEqual(answers([14, 3]), [1, 0])
        self.assertEqual(answers([15, 4, 2, 3, 3, 2, 0]), [3, 2, 0, 1])
        self.assertEqual(answers([16]), [6, 0, 0, 0, 0, 0, 0])

    def test_lots_are_numbered_from_0_over_all_articles(self):
        calls = [("lot", 2, 0, 3, 7), ("lot", 5, 1, 1, 8), ("lot", 2, 400, 400, 1000)]
        self.assertEqual(ask(calls), [[0], [1], [2]])

    def test_told_tells_each_lot(self):
        calls = [("lot", 2, 0, 3, 7), ("lot", 5, 1, 9, 8), ("told", 0), ("told", 1)]
        self.assertEqual(ask(calls)[2:], [[2, 0, 3, 7, 7], [5, 1, 9, 8, 8]])

    def test_demand_tells_what_its_article_lacks_with_it(self):
        calls = [
            ("lot", 1, 0, 5, 4), ("demand", 1, 2, 3), ("demand", 1, 2, 3), ("demand", 2, 2, 6), ("demand", 1, 6, 1),
        ]
        self.assertEqual(ask(calls)[1:], [[1, 0], [2, 2], [3, 6], [4, 3]])

    def test_demand_told_later_for_an_earlier_day(self):
        calls = [("lot", 1, 0, 5, 4), ("demand", 1, 5, 4), ("demand", 1, 0, 1), ("plan", 1)]
        self.assertEqual(ask(calls)[1:], [[1, 0], [2, 1], [2, 4, 2, 0, 1, 0, 1, 1, 1, 1, 0, 3]])

    def test_cancel_tells_the_doses_and_takes_the_demand_away(self):
        calls = [("demand", 1, 5, 4), ("demand", 1, 0, 9), ("cancel", 1), ("plan", 1), ("cancel", 1)]
        self.assertEqual(ask(calls)[2:], [[4], [1, 0, 2, 9, 0], [-4]])


class DemandNumbers(unittest.TestCase):
    def test_from_1_and_none_twice(self):
        calls = [("demand", 1, 0, 1), ("cancel", 1), ("demand", 1, 0, 1), ("demand", 2, 0, 1), ("cancel", 3)]
        calls += [("cancel", 2), ("demand", 1, 0, 1)]
        self.assertEqual(ask(calls), [[1, 1], [1], [2, 1], [3, 1], [1], [1], [4, 1]])

    def test_a_refused_demand_uses_up_no_number(self):
        calls = [("demand", 0, 0, 1), ("demand", 1, 401, 1), ("demand", 1, 0, 1)]
        self.assertEqual(ask(calls), [[-1], [-1], [1, 1]])

    def test_a_demand_refused_for_want_of_room_uses_up_no_number(self):
        calls = [("demand", 1, 0, 1)] * 41 + [("cancel", 7), ("demand", 1, 0, 1)]
        self.assertEqual(ask(calls)[-3:], [[-2], [1], [41, 40]])

    def test_clear_begins_them_anew(self):
        calls = [("lot", 1, 0, 9, 3), ("demand", 1, 0, 1), ("demand", 1, 0, 1), ("clear",), ("cancel", 1), ("told", 0)]
        calls += [("demand", 1, 0, 1), ("lot", 2, 0, 9, 3)]
        self.assertEqual(ask(calls)[3:], [[0], [-4], [-1], [1, 1], [0]])

    def test_clear_makes_room(self):
        calls = [("lot", 1, 0, 9, 3)] * 40 + [("demand", 1, 0, 1)] * 40 + [("clear",)]
        calls += [("lot", 1, 0, 9, 3)] * 41 + [("demand", 1, 0, 1)] * 41
        told = ask(calls)
        self.assertEqual(told[81:122], [[number] for number in range(40)] + [[-2]])
        self.assertEqual(told[122:], [[number, 0] for number in range(1, 41)] + [[-2]])

    def test_after_clear_nothing_is_to_be_seen(self):
        calls = [("lot", 1, 0, 9, 3), ("demand", 1, 0, 5), ("demand", 2, 0, 5), ("clear",)]
        self.assertEqual(ask(calls + view(1))[4:], ask(view(1)))


class Edges(unittest.TestCase):
    def check(self, before, call, at, edges, good):
        """Puts each edge in the place of one argument; good tells whether an answer is no refusal."""
        for value, right in edges.items():
            given = list(call)
            given[at] = value
            with self.subTest(call=tuple(given)):
                answer = last_answer(before + [tuple(given)])
                if right:
                    self.assertTrue(good(answer), answer)
                else:
                    self.assertEqual(answer, [-1])

    def test_articles(self):
        calls = [("lot", 1, 0, 0, 1), ("demand", 1, 0, 1), ("plan", 1), ("tight", 1)]
        for call in calls + [("bears", 1, 0, 1), ("spare", 1, 0), ("waste", 1)]:
            self.check([], call, 1, ARTICLES, lambda answer: answer[0] >= 0)
        before = [("lot", article, 0, 0, 1) for article in range(1, 9)]
        self.check(before, ("use", 1, 1), 1, ARTICLES, lambda answer: answer[0] == 1)
        self.check(before, ("waste", 1), 1, ARTICLES, lambda answer: answer == [1])

    def test_days(self):
        for call in (("demand", 1, 0, 1), ("bears", 1, 0, 1), ("spare", 1, 0)):
            self.check([], call, 2, DAYS, lambda answer: answer[0] >= 0)

    def test_doses(self):
        for call in (("lot", 1, 0, 0, 1), ("demand", 1, 0, 1), ("bears", 1, 0, 1)):
            self.check([], call, len(call) - 1, DOSES, lambda answer: answer[0] >= 0)
        self.check([("lot", 1, 0, 0, 1000)], ("use", 1, 1), 2, DOSES, lambda answer: answer[:2] == [1, 0])

    def test_the_day_of_today(self):
        self.check([], ("today", 0), 1, DAYS, lambda answer: answer == [0, 0])

    def test_the_day_on_which_a_lot_comes(self):
        self.check([], ("lot", 1, 0, 400, 1), 2, DAYS, lambda answer: answer == [0])

    def test_the_last_day_of_a_lot(self):
        edges = {-1: False, 0: False, 6: False, 7: True, 8: True, 400: True, 401: False, LEAST: False, GREATEST: False}
        self.check([], ("lot", 1, 7, 7, 1), 3, edges, lambda answer: answer == [0])
        self.assertEqual(ask([("lot", 1, 0, -1, 1), ("lot", 1, 0, 0, 1)]), [[-1], [0]])
        at_400 = [("lot", 1, 400, 399, 1), ("lot", 1, 400, 400, 1), ("lot", 1, 400, 401, 1)]
        self.assertEqual(ask(at_400), [[-1], [0], [-1]])
        self.assertEqual(ask([("lot", 1, 401, 401, 1), ("lot", 1, -1, -1, 1), ("lot", 1, -1, 0, 1)]), [[-1]] * 3)

    def test_the_number_of_a_lot(self):
        for lots in (1, 2, 40):
            before = [("lot", 1, 0, 0, 1)] * lots
            edges = {-1: False, 0: True, lots - 1: True, lots: False, -lots: False, LEAST: False, GREATEST: False}
            self.check(before, ("told", 0), 1, edges, lambda answer: answer == [1, 0, 0, 1, 1])
            self.check(before, ("withdraw", 0), 1, edges, lambda answer: answer == [1, 0])
            self.check(before, ("used_from", 0), 1, edges, lambda answer: answer == [0])

    def test_the_number_of_a_demand_is_any(self):
        before = [("demand", 1, 0, 1), ("demand", 1, 0, 2)]
        for k in (0, -1, 3, 41, LEAST, GREATEST):
            self.assertEqual(last_answer(before + [("cancel", k)]), [-4])
        for k in (1, 2):
            self.assertEqual(last_answer(before + [("cancel", k)]), [k])

    def test_what_stands_at_the_edges_is_kept_as_it_was_told(self):
        calls = [("lot", 1, 0, 400, 1000), ("lot", 8, 400, 400, 1), ("told", 0), ("told", 1), ("demand", 8, 400, 1000)]
        calls += [("demand", 1, 0, 1), ("plan", 8), ("plan", 1)]
        self.assertEqual(ask(calls)[2:], [
            [1, 0, 400, 1000, 1000], [8, 400, 400, 1, 1], [1, 999], [2, 0],
            [1, 1, 1, 999, 1, 1, 1], [1, 1, 2, 0, 1, 0, 1],
        ])


class Refusals(unittest.TestCase):
    def test_the_41st_lot(self):
        calls = [("lot", 1 + k % 8, 0, 9, 1) for k in range(41)]
        self.assertEqual(ask(calls), [[k] for k in range(40)] + [[-2]])

    def test_the_41st_demand(self):
        calls = [("demand", 1 + k % 8, 0, 1) for k in range(41)]
        told = ask(calls)
        self.assertEqual([answer[0] for answer in told], list(range(1, 41)) + [-2])
        self.assertEqual(told[40], [-2])

    def test_room_again_behind_cancel(self):
        calls = [("demand", 1, 0, 1)] * 40 + [("cancel", 40), ("demand", 2, 0, 7), ("demand", 2, 0, 7)]
        self.assertEqual(ask(calls)[40:], [[1], [41, 7], [-2]])

    def test_out_of_range_comes_before_want_of_room(self):
        before = [("lot", 1, 0, 9, 1)] * 40 + [("demand", 1, 0, 1)] * 40
        wrong = [("lot", 9, 0, 9, 1), ("lot", 1, -1, 9, 1), ("lot", 1, 3, 2, 1), ("lot", 1, 0, 9, 0)]
        wrong += [("demand", 0, 0, 1), ("demand", 1, 401, 1), ("demand", 1, 0, 1001)]
        self.assertEqual(ask(before + wrong)[80:], [[-1]] * 7)

    def test_a_refusal_changes_nothing(self):
        stock = [("lot", 1, 0, 9, 3), ("lot", 2, 4, 6, 5)]
        stock += [("demand", 1, 2, 5), ("demand", 2, 5, 4), ("demand", 1, 2, 1)]
        wrong = [("lot", 0, 0, 9, 3), ("lot", 1, 5, 4, 3), ("lot", 1, 0, 401, 3), ("lot", 1, 0, 9, 1001)]
        wrong += [("demand", 9, 0, 1), ("demand", 1, -1, 1), ("demand", 1, 0, 0), ("cancel", 0), ("cancel", 4)]
        wrong += [("plan", 0), ("told", 2), ("told", -1), ("tight", 9), ("bears", 1, 401, 1), ("bears", 1, 0, 0)]
        wrong += [("spare", 0, 0), ("spare", 1, 401), ("take", 0), ("take", 1), ("use", 0, 1), ("use", 1, 1001)]
        wrong += [("use", 1, 4), ("use", 1, 1), ("use", 2, 1), ("today", -1), ("today", 401), ("withdraw", 2)]
        wrong += [("withdraw", -1), ("used_from", 2), ("waste", 0), ("vials", 0, 1, 0), ("vials", 1, 1, 1, 101)]
        seen = view(2) + [("lot", 3, 0, 0, 1), ("demand", 3, 0, 1), ("use", 1, 1), ("take", 4)]
        seen += [("today", 2), ("take", 3), ("take", 1), ("withdraw", 1), ("cancel", 2)] + view(3)
        expected = ask(stock + seen)[len(stock):]
        for call in wrong:
            with self.subTest(call=call):
                told = ask(stock + [call] + seen)
                self.assertEqual(len(told[len(stock)]), 1)
                self.assertLess(told[len(stock)][0], 0)
                self.assertEqual(told[len(stock) + 1:], expected)

    def test_a_refusal_for_want_of_room_changes_nothing(self):
        stock = [("lot", 1, 0, 9, 1)] * 40 + [("demand", 1, 0, 2)] * 40
        expected = ask(stock + view(40))[80:]
        for call in (("lot", 1, 0, 9, 1), ("demand", 1, 0, 2)):
            told = ask(stock + [call] + view(40))
            self.assertEqual(told[80], [-2])
            self.assertEqual(told[81:], expected)


if __name__ == "__main__":
    unittest.main()
