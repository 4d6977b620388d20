"""What is left behind the plan, and how many there are of everything."""

import unittest

from lines import GREATEST, LEAST, ask, last_answer, view


class Waste(unittest.TestCase):
    def waste(self, calls, article=1):
        return last_answer(calls + [("waste", article)])

    def test_nothing_there(self):
        self.assertEqual(self.waste([]), [0])
        self.assertEqual(self.waste([("demand", 1, 0, 5)]), [0])
        self.assertEqual(self.waste([("lot", 2, 0, 9, 5)]), [0])

    def test_behind_the_plan(self):
        lot = [("lot", 1, 0, 5, 4)]
        self.assertEqual(self.waste(lot), [4])
        self.assertEqual(self.waste(lot + [("demand", 1, 3, 3)]), [1])
        self.assertEqual(self.waste(lot + [("demand", 1, 3, 3), ("demand", 1, 2, 3)]), [0])

    def test_lots_good_on_no_demands_day(self):
        calls = [("lot", 1, 0, 1, 4), ("lot", 1, 2, 5, 8), ("lot", 1, 3, 9, 16), ("demand", 1, 2, 9)]
        self.assertEqual(self.waste(calls), [20])

    def test_lots_that_come_later(self):
        calls = [("lot", 1, 0, 9, 4), ("lot", 1, 300, 400, 8), ("demand", 1, 0, 1)]
        self.assertEqual(self.waste(calls), [11])

    def test_another_articles_lots_and_demands_do_not_count(self):
        calls = [("lot", 1, 0, 9, 4), ("lot", 2, 0, 9, 8), ("demand", 2, 0, 3), ("demand", 3, 0, 3)]
        self.assertEqual([self.waste(calls, article) for article in (1, 2, 3, 8)], [[4], [5], [0], [0]])

    def test_it_counts_what_is_left_now(self):
        calls = [("lot", 1, 0, 2, 10), ("lot", 1, 0, 9, 20), ("lot", 1, 0, 9, 30), ("waste", 1), ("use", 1, 3)]
        calls += [("waste", 1), ("withdraw", 1), ("waste", 1), ("today", 3), ("waste", 1)]
        self.assertEqual(ask(calls)[3:], [[60], [1, 0, 3], [57], [20, 0], [37], [7, 0], [30]])

    def test_nothing_is_really_taken(self):
        stock = [("lot", 1, 0, 5, 4), ("lot", 1, 2, 7, 4), ("demand", 1, 3, 5)]
        told = ask(stock + [("waste", 1), ("waste", 1)] + view(2))
        self.assertEqual(told[3:5], [[3], [3]])
        self.assertEqual(told[5:], ask(stock + view(2))[3:])

    def test_the_article(self):
        stock = [("lot", 1, 0, 5, 4), ("lot", 8, 2, 7, 5), ("demand", 8, 3, 2)]
        self.assertEqual([self.waste(stock, article) for article in (1, 8)], [[4], [3]])
        for article in (0, 9, -1, LEAST, GREATEST):
            told = ask(stock + [("waste", article)] + view(2))
            self.assertEqual(told[3], [-1])
            self.assertEqual(told[4:], ask(stock + view(2))[3:])


class Counts(unittest.TestCase):
    def test_in_the_beginning(self):
        self.assertEqual(ask([("counts",)] * 2), [[0] * 6] * 2)

    def test_behind_each_kind_of_call(self):
        steps = [
            (("lot", 1, 0, 5, 4), [0, 1, 0, 0, 0, 0]),
            (("lot", 2, 3, 9, 7), [0, 2, 0, 0, 0, 0]),
            (("lot", 1, 0, 0, 2), [0, 3, 0, 0, 0, 0]),
            (("demand", 1, 0, 1), [0, 3, 1, 0, 0, 0]),
            (("demand", 1, 2, 1), [0, 3, 2, 0, 0, 0]),
            (("demand", 2, 2, 1), [0, 3, 3, 0, 0, 0]),
            (("demand", 1, 3, 1), [0, 3, 4, 0, 0, 0]),
            (("cancel", 2), [0, 3, 3, 0, 0, 0]),
            (("plan", 1), [0, 3, 3, 0, 0, 0]),
            (("told", 1), [0, 3, 3, 0, 0, 0]),
            (("tight", 2), [0, 3, 3, 0, 0, 0]),
            (("bears", 1, 2, 3), [0, 3, 3, 0, 0, 0]),
            (("spare", 1, 2), [0, 3, 3, 0, 0, 0]),
            (("take", 1), [0, 3, 2, 1, 0, 0]),
            (("use", 1, 2), [0, 3, 2, 2, 0, 0]),
            (("use", 1, 3), [0, 3, 2, 2, 0, 0]),
            (("today", 1), [1, 3, 2, 2, 0, 0]),
            (("withdraw", 1), [1, 3, 2, 2, 0, 7]),
            (("used_from", 0), [1, 3, 2, 2, 0, 7]),
            (("waste", 1), [1, 3, 2, 2, 0, 7]),
            (("vials", 2, 2, 2, 3, 3), [1, 3, 2, 2, 0, 7]),
            (("counts",), [1, 3, 2, 2, 0, 7]),
            (("today", 6), [6, 3, 0, 2, 3, 7]),
            (("lot", 3, 0, 9, 5), [6, 4, 0, 2, 3, 7]),
            (("withdraw", 3), [6, 4, 0, 2, 3, 12]),
            (("clear",), [0, 0, 0, 0, 0, 0]),
        ]
        calls = [each for call, counts in steps for each in (call, ("counts",))]
        self.assertEqual(ask(calls)[1::2], [counts for call, counts in steps])

    def test_clear_brings_everything_back(self):
        stock = [("lot", 1, 0, 5, 4), ("lot", 2, 3, 9, 7), ("lot", 1, 0, 0, 2), ("demand", 1, 0, 1)]
        stock += [("demand", 2, 4, 1)]
        stock += [("take", 1), ("use", 1, 2), ("today", 3), ("withdraw", 1), ("counts",), ("clear",)]
        anew = [("counts",)] + view(3) + [("lot", 2, 0, 0, 5), ("demand", 2, 0, 3), ("use", 2, 2), ("take", 1)]
        anew += [("today", 1), ("withdraw", 0)] + view(1)
        told = ask(stock + anew)
        self.assertEqual(told[9], [3, 3, 1, 2, 0, 7])
        self.assertEqual(told[11:], ask(anew))


if __name__ == "__main__":
    unittest.main()
