"""The day that moves: what it throws away, which demands it ends, and what is refused as before it."""

import unittest

from lines import GREATEST, LEAST, ask, last_answer, view


class ThrownAway(unittest.TestCase):
    def test_lots_by_their_last_days(self):
        calls = [("lot", 1, 0, 4, 1), ("lot", 1, 0, 5, 2), ("lot", 2, 1, 3, 4), ("lot", 1, 5, 6, 8)]
        calls += [("lot", 1, 7, 9, 16)]
        calls += [("today", 5)] + [("told", number) for number in range(5)] + [("counts",)]
        self.assertEqual(ask(calls)[5:], [
            [5, 0],
            [1, 0, 4, 0, 1], [1, 0, 5, 2, 2], [2, 1, 3, 0, 4], [1, 5, 6, 8, 8], [1, 7, 9, 16, 16],
            [5, 5, 0, 0, 5, 0],
        ])

    def test_on_its_last_day_a_lot_is_still_there(self):
        calls = [("lot", 1, 0, 4, 7), ("today", 4), ("use", 1, 2), ("today", 5), ("use", 1, 1), ("counts",)]
        self.assertEqual(ask(calls)[1:], [[0, 0], [1, 0, 2], [5, 0], [-7], [5, 1, 0, 1, 5, 0]])

    def test_what_was_thrown_away_is_not_counted_again(self):
        calls = [("lot", 1, 0, 1, 3), ("lot", 1, 0, 2, 5), ("today", 2), ("today", 2), ("today", 3), ("today", 400)]
        calls += [("counts",)]
        self.assertEqual(ask(calls)[2:], [[3, 0], [0, 0], [5, 0], [0, 0], [400, 2, 0, 0, 8, 0]])

    def test_only_what_is_left_is_thrown_away(self):
        calls = [("lot", 1, 0, 1, 3), ("lot", 2, 0, 1, 5), ("lot", 3, 0, 1, 7), ("use", 1, 2), ("withdraw", 1)]
        calls += [("today", 2), ("counts",)]
        self.assertEqual(ask(calls)[5:], [[8, 0], [2, 3, 0, 1, 8, 5]])

    def test_a_lot_thrown_away_still_counts_among_the_forty(self):
        calls = [("lot", 1, 0, 0, 1)] * 40 + [("today", 1), ("lot", 1, 1, 1, 1)]
        self.assertEqual(ask(calls)[40:], [[40, 0], [-2]])


class GoneDemands(unittest.TestCase):
    def test_demands_by_their_days(self):
        calls = [("demand", 1, 4, 1), ("demand", 1, 5, 2), ("demand", 2, 3, 4), ("demand", 1, 6, 8)]
        calls += [("demand", 1, 4, 9)]
        calls += [("today", 5), ("plan", 1), ("plan", 2), ("counts",)]
        self.assertEqual(ask(calls)[5:], [[0, 3], [2, 0, 2, 2, 0, 4, 8, 0], [0, 0], [5, 0, 2, 0, 0, 0]])

    def test_they_cannot_be_taken_or_cancelled_any_more(self):
        calls = [("lot", 1, 0, 9, 5), ("demand", 1, 4, 1), ("today", 5), ("take", 1), ("cancel", 1), ("plan", 1)]
        self.assertEqual(ask(calls)[2:], [[0, 1], [-4], [-4], [0, 0]])

    def test_they_are_not_counted_again_and_their_numbers_are_not_given_again(self):
        calls = [("demand", 1, 4, 1), ("demand", 1, 4, 1), ("today", 5), ("today", 6), ("demand", 1, 6, 3)]
        self.assertEqual(ask(calls)[2:], [[0, 2], [0, 0], [3, 3]])

    def test_room_for_demands_again(self):
        calls = [("demand", 1, 4, 1)] * 39 + [("demand", 1, 5, 1), ("demand", 1, 5, 1), ("today", 5)]
        calls += [("demand", 2, 5, 1)] * 40
        told = ask(calls)
        self.assertEqual(told[40:42], [[-2], [0, 39]])
        self.assertEqual(told[42:], [[40 + k, k] for k in range(1, 40)] + [[-2]])

    def test_what_they_would_have_got_is_free(self):
        calls = [("lot", 1, 0, 9, 5), ("demand", 1, 4, 3), ("demand", 1, 6, 5), ("today", 5), ("plan", 1)]
        self.assertEqual(ask(calls)[2:], [[2, 3], [0, 1], [1, 5, 2, 0, 1, 0, 5]])


class TheDay(unittest.TestCase):
    def test_its_range(self):
        for before in (0, 1, 10, 399, 400):
            calls = [("today", before)]
            for day in (before - 1, -1, 401, LEAST, GREATEST):
                self.assertEqual(ask(calls + [("today", day), ("counts",)])[1:], [[-1], [before, 0, 0, 0, 0, 0]])
            for day in (before, 400):
                self.assertEqual(ask(calls + [("today", day), ("counts",)])[1:], [[0, 0], [day, 0, 0, 0, 0, 0]])

    def test_a_refused_day_throws_nothing_away(self):
        stock = [("lot", 1, 0, 9, 5), ("lot", 1, 0, 3, 5), ("demand", 1, 3, 3), ("demand", 1, 400, 3), ("today", 2)]
        for day in (1, 0, 401, LEAST, GREATEST):
            told = ask(stock + [("today", day)] + view(2))
            self.assertEqual(told[5], [-1])
            self.assertEqual(told[6:], ask(stock + view(2))[5:])

    def test_today_itself_changes_nothing(self):
        stock = [("lot", 1, 0, 2, 5), ("lot", 1, 0, 1, 5), ("demand", 1, 2, 3), ("demand", 1, 1, 3), ("today", 2)]
        told = ask(stock + [("today", 2)] + view(2))
        self.assertEqual(told[4:6], [[5, 1], [0, 0]])
        self.assertEqual(told[6:], ask(stock + view(2))[5:])

    def test_clear_brings_day_0_back(self):
        calls = [("today", 400), ("clear",), ("counts",), ("lot", 1, 0, 0, 3), ("demand", 1, 0, 1), ("today", 0)]
        self.assertEqual(ask(calls)[1:], [[0], [0] * 6, [0], [1, 0], [0, 0]])


class BeforeToday(unittest.TestCase):
    def test_a_lot_whose_last_day_is_before_today(self):
        calls = [("today", 10), ("lot", 1, 0, 9, 1), ("lot", 1, 9, 9, 1), ("lot", 1, 0, 10, 1), ("lot", 1, 11, 12, 1)]
        self.assertEqual(ask(calls + [("counts",)])[1:], [[-3], [-3], [0], [1], [10, 2, 0, 0, 0, 0]])

    def test_a_demand_before_today(self):
        calls = [("today", 10), ("demand", 1, 9, 1), ("demand", 1, 0, 1), ("demand", 1, 10, 1), ("demand", 1, 11, 1)]
        self.assertEqual(ask(calls + [("counts",)])[1:], [[-3], [-3], [1, 1], [2, 2], [10, 0, 2, 0, 0, 0]])

    def test_bears_and_spare_before_today(self):
        calls = [("today", 10), ("lot", 1, 0, 20, 6)]
        calls += [("bears", 1, day, 6) for day in (0, 9, 10, 11, 20, 21)]
        calls += [("spare", 1, day) for day in (0, 9, 10, 11, 20, 21)]
        self.assertEqual(ask(calls)[2:], [[-3], [-3], [1], [1], [1], [0], [-3], [-3], [6], [6], [6], [0]])

    def test_on_the_day_0_nothing_is_before_today(self):
        calls = [("lot", 1, 0, 0, 1), ("demand", 1, 0, 1), ("bears", 1, 0, 1), ("spare", 1, 0)]
        self.assertEqual(ask(calls), [[0], [1, 0], [0], [0]])

    def test_on_the_day_400_all_else_is_before_today(self):
        calls = [("today", 400), ("lot", 1, 0, 399, 1), ("lot", 1, 0, 400, 4), ("demand", 1, 399, 1)]
        calls += [("demand", 1, 400, 1)]
        calls += [("spare", 1, 399), ("spare", 1, 400), ("bears", 1, 399, 1), ("bears", 1, 400, 3)]
        self.assertEqual(ask(calls)[1:], [[-3], [0], [-3], [1, 0], [-3], [3], [-3], [1]])

    def test_the_order_of_refusals(self):
        calls = [("today", 10), ("lot", 0, 0, 9, 1), ("demand", 1, 9, 0), ("bears", 1, 9, 1001), ("spare", 9, 9)]
        self.assertEqual(ask(calls)[1:], [[-1]] * 4)
        full = [("today", 10)] + [("lot", 1, 0, 10, 1)] * 40 + [("demand", 1, 10, 1)] * 40
        calls = [("lot", 1, 0, 9, 1), ("demand", 1, 9, 1), ("lot", 1, 0, 9, 0), ("demand", 1, 9, 0)]
        calls += [("bears", 1, 9, 1), ("spare", 1, 9)]
        self.assertEqual(ask(full + calls)[81:], [[-2], [-2], [-1], [-1], [-3], [-3]])

    def test_these_refusals_change_nothing(self):
        stock = [("lot", 1, 0, 20, 6), ("demand", 1, 12, 4), ("today", 10)]
        seen = view(1) + [("lot", 1, 0, 20, 1), ("demand", 1, 20, 1)]
        for call in (("lot", 1, 0, 9, 1), ("demand", 1, 9, 1), ("bears", 1, 9, 1), ("spare", 1, 9)):
            told = ask(stock + [call] + seen)
            self.assertEqual(told[3], [-3])
            self.assertEqual(told[4:], ask(stock + seen)[3:])

    def test_a_refused_lot_does_not_take_up_room_or_a_number(self):
        calls = [("today", 1), ("lot", 1, 0, 0, 1), ("lot", 1, 0, 1, 1), ("demand", 1, 0, 1)]
        self.assertEqual(ask(calls)[1:], [[-3], [0], [-3]])
        self.assertEqual(last_answer(calls + [("demand", 1, 1, 1)]), [1, 0])


if __name__ == "__main__":
    unittest.main()
