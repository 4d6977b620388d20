"""Promises 1 and 2, and the days that ask too much, against plain searches over small stocks."""

import random
import unittest
from itertools import combinations_with_replacement

import plainly
from lines import ask

DAYS = range(4)


def calls_of(lots, demands):
    calls = [("lot", 1, *lot) for lot in lots.values()]
    return calls + [("demand", 1, *demand) for demand in demands.values()]


def small_stocks():
    """All stocks of up to two lots and two demands on three days, with one or two doses."""
    lots = [(comes, last, doses) for comes in range(3) for last in range(comes, 3) for doses in (1, 2)]
    demands = [(day, doses) for day in (2, 1, 0) for doses in (1, 2)]
    for some in range(3):
        for chosen in combinations_with_replacement(lots, some):
            for many in range(3):
                for asked in combinations_with_replacement(demands, many):
                    yield dict(enumerate(chosen)), dict(enumerate(asked, 1))


def chance_stocks(count, lots_most, demands_most):
    """Stocks drawn by chance, the same ones every time."""
    chance = random.Random(20)
    for _ in range(count):
        lots = {}
        for number in range(chance.randint(1, lots_most)):
            comes = chance.choice(DAYS)
            lots[number] = (comes, chance.randint(comes, DAYS[-1]), chance.randint(1, 3))
        demands = {}
        for number in range(1, chance.randint(1, demands_most) + 1):
            demands[number] = (chance.choice(DAYS), chance.randint(1, 3))
        yield lots, demands


class Promises(unittest.TestCase):
    def check(self, lots, demands):
        calls = calls_of(lots, demands)
        told, tight = ask(calls + [("plan", 1), ("tight", 1)])[-2:]
        asked = sum(doses for day, doses in demands.values())
        lacks = asked - told[1]
        self.assertEqual(told[1], plainly.most_served(lots, demands))
        for days in plainly.sets_of_days(DAYS):
            self.assertLessEqual(plainly.asked_on(demands, days), plainly.left_for(lots, days) + lacks)
        days = tight[1:1 + tight[0]]
        self.assertEqual(tight[1 + tight[0]:], [plainly.asked_on(demands, days), plainly.left_for(lots, days)])
        self.assertEqual(tight[-2], tight[-1] + lacks)
        self.assertEqual(tight[0] > 0, lacks > 0)

    def test_all_small_stocks(self):
        for lots, demands in small_stocks():
            self.check(lots, demands)

    def test_stocks_by_chance(self):
        for lots, demands in chance_stocks(400, 4, 4):
            self.check(lots, demands)

    def test_the_plan_gives_only_what_there_is_on_days_on_which_it_is_good(self):
        for lots, demands in chance_stocks(300, 5, 6):
            told = ask(calls_of(lots, demands) + [("plan", 1)])[-1]
            given = {number: 0 for number in lots}
            served = 0
            at = 2
            for _ in range(told[0]):
                number, lacks, parts = told[at:at + 3]
                at += 3
                got = 0
                for _ in range(parts):
                    lot, doses = told[at:at + 2]
                    at += 2
                    self.assertGreater(doses, 0)
                    self.assertTrue(plainly.good(lots[lot], demands[number][0]))
                    given[lot] += doses
                    got += doses
                self.assertEqual(got + lacks, demands[number][1])
                served += got
            self.assertEqual(at, len(told))
            self.assertEqual(served, told[1])
            for number, doses in given.items():
                self.assertLessEqual(doses, lots[number][2])

    def test_bears_and_spare_against_every_way(self):
        for lots, demands in chance_stocks(60, 3, 3):
            calls = calls_of(lots, demands)
            lacks = sum(doses for day, doses in demands.values()) - plainly.most_served(lots, demands)
            for day in DAYS:
                borne = [True]
                for doses in range(1, 8):
                    more = dict(demands)
                    more[len(demands) + 1] = (day, doses)
                    asked = sum(each[1] for each in more.values())
                    borne.append(asked - plainly.most_served(lots, more) <= lacks)
                tried = [("bears", 1, day, doses) for doses in range(1, 8)]
                told = ask(calls + tried + [("spare", 1, day)])[len(calls):]
                self.assertEqual(told[:-1], [[int(each)] for each in borne[1:]])
                if not borne[-1]:
                    self.assertEqual(told[-1], [max(doses for doses in range(8) if borne[doses])])


if __name__ == "__main__":
    unittest.main()
