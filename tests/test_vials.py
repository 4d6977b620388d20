"""Vials: when they are opened, the ranges of what is asked, and that no fewer would do."""

import random
import unittest
from itertools import product

import plainly
from lines import GREATEST, LEAST, ask, last_answer, vials, view
from reagentstock.stock import answers


def opened(m, life, needs):
    return ask([vials(m, life, needs)])[0]


class Opened(unittest.TestCase):
    def test_whole_answer_list(self):
        given = [15, 3, 2, 4, 2, 2, 0, 4, 16, 15, 3, 2, 0]
        self.assertEqual(answers(given), [5, 4, 0, 1, 3, 3, 6, 0, 0, 0, 0, 0, 0, 1, 0])

    def test_nothing_needed(self):
        self.assertEqual(opened(5, 2, []), [0])
        self.assertEqual(opened(5, 2, [0]), [0])
        self.assertEqual(opened(5, 2, [0] * 40), [0])

    def test_a_vial_lasts_life_days(self):
        self.assertEqual(opened(5, 3, [1, 1, 1, 1]), [2, 0, 3])
        self.assertEqual(opened(5, 3, [1, 0, 1]), [1, 0])
        self.assertEqual(opened(5, 3, [1, 0, 0, 1]), [2, 0, 3])

    def test_life_1(self):
        self.assertEqual(opened(5, 1, [1, 6, 0, 5, 11]), [7, 0, 1, 1, 3, 4, 4, 4])

    def test_m_1(self):
        self.assertEqual(opened(1, 60, [2, 0, 1, 3]), [6, 0, 0, 2, 3, 3, 3])

    def test_a_vial_that_runs_out_within_a_day(self):
        self.assertEqual(opened(3, 9, [2, 2, 2]), [2, 0, 1])
        self.assertEqual(opened(3, 9, [2, 2, 3]), [3, 0, 1, 2])

    def test_a_vial_that_runs_out_at_the_end_of_a_day(self):
        self.assertEqual(opened(2, 9, [2, 0, 2]), [2, 0, 2])

    def test_a_vial_that_ends_while_doses_are_left_in_it(self):
        self.assertEqual(opened(100, 2, [1, 1, 1, 0, 1]), [3, 0, 2, 4])

    def test_life_is_counted_from_the_day_of_opening(self):
        self.assertEqual(opened(3, 2, [0, 0, 2, 2, 1, 1]), [3, 2, 3, 5])
        self.assertEqual(opened(3, 2, [4, 0, 1]), [3, 0, 0, 2])

    def test_several_on_one_day(self):
        self.assertEqual(opened(10, 2, [35, 5, 1]), [5, 0, 0, 0, 0, 2])

    def test_the_greatest(self):
        self.assertEqual(opened(1, 1, [100] * 40), [4000] + [day for day in range(40) for _ in range(100)])
        self.assertEqual(opened(100, 60, [100] * 40), [40] + list(range(40)))
        self.assertEqual(opened(100, 60, [1] * 40), [1, 0])

    def test_the_stock_is_not_looked_at(self):
        calls = [("lot", 1, 0, 9, 50), ("demand", 1, 5, 3), ("today", 4), vials(3, 2, [2, 2, 0, 4])]
        self.assertEqual(last_answer(calls), [4, 0, 1, 3, 3])

    def test_nothing_is_changed_or_kept(self):
        stock = [("lot", 1, 0, 9, 50), ("demand", 1, 5, 3), ("use", 1, 2), ("today", 4)]
        told = ask(stock + [vials(5, 9, [1]), vials(5, 9, [1])] + view(1))
        self.assertEqual(told[4:6], [[1, 0], [1, 0]])
        self.assertEqual(told[6:], ask(stock + view(1))[4:])


class Ranges(unittest.TestCase):
    def test_m(self):
        for m in (1, 100):
            self.assertEqual(opened(m, 2, [1]), [1, 0])
        for m in (0, 101, -1, LEAST, GREATEST):
            self.assertEqual(opened(m, 2, [1]), [-1])

    def test_life(self):
        for life in (1, 60):
            self.assertEqual(opened(2, life, [1]), [1, 0])
        for life in (0, 61, -1, LEAST, GREATEST):
            self.assertEqual(opened(2, life, [1]), [-1])

    def test_how_many_days(self):
        for days in (0, 1, 40):
            self.assertEqual(opened(100, 60, [1] * days), [min(days, 1)] + [0] * min(days, 1))
            self.assertEqual(opened(100, 60, [0] * days), [0])
        for days in (41, 50):
            self.assertEqual(opened(100, 60, [1] * days), [-1])
            self.assertEqual(opened(100, 60, [0] * days), [-1])

    def test_what_is_needed_on_the_first_and_the_last_day(self):
        for length in (1, 2, 40):
            for at in (0, length - 1):
                expected = {0: [0], 100: [1, at]}
                for need in (-1, 0, 100, 101, LEAST, GREATEST):
                    needs = [0] * length
                    needs[at] = need
                    self.assertEqual(opened(100, 5, needs), expected.get(need, [-1]))

    def test_wrong_rows_change_nothing_and_the_line_goes_on(self):
        stock = [("lot", 1, 0, 9, 50), ("demand", 1, 5, 3), ("use", 1, 2)]
        wrong = [vials(0, 1, []), vials(1, 0, [1]), vials(1, 1, [0] * 41), vials(1, 1, [GREATEST] * 50)]
        wrong += [vials(1, 1, [LEAST] * 50), vials(1, 1, [1, -1]), vials(101, 61, [101])]
        for call in wrong:
            told = ask(stock + [call] + view(1))
            self.assertEqual(told[3], [-1])
            self.assertEqual(told[4:], ask(stock + view(1))[3:])


class NoFewer(unittest.TestCase):
    def check(self, asked):
        for at in range(0, len(asked), 300):
            some = asked[at:at + 300]
            for (m, life, needs), told in zip(some, ask([vials(*each) for each in some])):
                self.assertEqual(told[0], plainly.fewest_vials(m, life, needs), (m, life, needs))
                self.assertEqual(told[1:], plainly.opened_vials(m, life, needs), (m, life, needs))

    def test_all_small_rows(self):
        rows = list(product(range(4), repeat=4)) + list(product(range(2), repeat=7))
        self.check([(m, life, list(needs)) for m in (1, 2, 3) for life in (1, 2, 3) for needs in rows])

    def test_rows_by_chance(self):
        chance = random.Random(4)
        asked = []
        for _ in range(300):
            needs = [chance.choice((0, 0, 1, 2, 3)) for _ in range(chance.randint(1, 9))]
            asked.append((chance.randint(1, 5), chance.randint(1, 6), needs))
        self.check(asked)

    def test_long_rows_by_chance_in_the_words_of_the_document(self):
        chance = random.Random(5)
        for _ in range(60):
            most = chance.choice((1, 3, 20, 100))
            needs = [chance.randint(0, most) for _ in range(chance.randint(1, 40))]
            m = chance.choice((1, 2, 7, 30, 100))
            life = chance.choice((1, 2, 5, 20, 60))
            days = plainly.opened_vials(m, life, needs)
            self.assertEqual(opened(m, life, needs), [len(days)] + days)


if __name__ == "__main__":
    unittest.main()
