"""Promises 1 to 3, and the days that ask too much, against plain searches over small stocks."""

import random
import unittest
from itertools import combinations_with_replacement

import plainly
from lines import ask, lacking

DAYS = range(4)


def calls_of(lots, demands):
    calls = [("lot", 1, *lot) for lot in lots.values()]
    return calls + [("demand", 1, *demand) for demand in demands.values()]


def small_stocks():
    """All stocks of up to two lots and two demands on three days, with one or two doses."""
    lots = [(comes, last, doses) for comes in range(3) for last in range(comes, 3) for doses in (1, 2)]
    demands = [(day, doses) for day in (2, 1, 0) for doses in (1, 2)]
    for some in range(3):
        for chosen in combinations_with_replacement(lots, some):
            for many in range(3):
                for asked in combinations_with_replacement(demands, many):
                    yield dict(enumerate(chosen)), dict(enumerate(asked, 1))


def chance_stocks(count, lots_most, demands_most):
    """Stocks drawn by chance, the same ones every time."""
    chance = random.Random(20)
    for _ in range(count):
        lots = {}
        for number in range(chance.randint(1, lots_most)):
            comes = chance.choice(DAYS)
            lots[number] = (comes, chance.randint(comes, DAYS[-1]), chance.randint(1, 3))
        demands = {}
        for number in range(1, chance.randint(1, demands_most) + 1):
            demands[number] = (chance.choice(DAYS), chance.randint(1, 3))
        yield lots, demands


def demands_in(calls, told, plan):
    """The days and doses of the demands that a plan tells of, as they were asked for."""
    asked = {answer[0]: call[2:] for call, answer in zip(calls, told) if call[0] == "demand"}
    demands = {}
    at = 2
    for _ in range(plan[0]):
        demands[plan[at]] = asked[plan[at]]
        at += 3 + 2 * plan[at + 2]
    return demands


PLANS = [("plan", 1), ("plan", 2)]


def moved_line(chance, length):
    """Calls on two articles' small lots and demands while the day moves; the plans stand round each take and use."""
    calls = []
    day = 0
    lots = 0
    demands = 0
    for _ in range(length):
        article = chance.choice((1, 1, 2))
        name = chance.choice(("lot", "lot", "demand", "demand", "use", "take", "take", "today", "withdraw"))
        if name == "lot" and lots < 7:
            last = day + chance.randint(0, 3)
            calls.append(("lot", article, chance.randint(max(0, day - 1), last), last, chance.randint(1, 3)))
            lots += 1
        elif name == "demand" and demands < 40:
            calls.append(("demand", article, day + chance.choice((0, 0, 1, 2, 3)), chance.randint(1, 2)))
            demands += 1
        elif name == "use":
            doses = chance.randint(1, 3)
            calls += [("bears", article, day, doses), *PLANS, ("use", article, doses), *PLANS]
        elif name == "take" and demands:
            calls += [*PLANS, ("take", chance.randint(max(1, demands - 3), demands)), *PLANS]
        elif name == "today" and chance.random() < 0.4:
            day += 1
            calls.append(("today", day))
        elif name == "withdraw" and lots and chance.random() < 0.4:
            calls.append(("withdraw", chance.randrange(lots)))
    return calls, lots


def moved_stocks():
    """Lines, their answers, and what is told of each lot in the end: its days and doses, and its uses."""
    chance = random.Random(31)
    for _ in range(400):
        calls, lots = moved_line(chance, 40)
        tail = [(name, number) for number in range(lots) for name in ("told", "used_from")]
        told = ask(calls + tail)
        yield calls, told[:len(calls)], told[len(calls)::2], told[len(calls) + 1::2]


class Promises(unittest.TestCase):
    def check(self, lots, demands):
        told, tight = ask(calls_of(lots, demands) + [("plan", 1), ("tight", 1)])[-2:]
        self.check_told(lots, demands, told, tight, DAYS)

    def check_told(self, lots, demands, told, tight, all_days):
        asked = sum(doses for day, doses in demands.values())
        lacks = asked - told[1]
        self.assertEqual(told[1], plainly.most_served(lots, demands))
        for days in plainly.sets_of_days(all_days):
            self.assertLessEqual(plainly.asked_on(demands, days), plainly.left_for(lots, days) + lacks)
        days = tight[1:1 + tight[0]]
        self.assertEqual(tight[1 + tight[0]:], [plainly.asked_on(demands, days), plainly.left_for(lots, days)])
        self.assertEqual(tight[-2], tight[-1] + lacks)
        self.assertEqual(tight[0] > 0, lacks > 0)

    def test_all_small_stocks(self):
        for lots, demands in small_stocks():
            self.check(lots, demands)

    def test_stocks_by_chance(self):
        for lots, demands in chance_stocks(400, 4, 4):
            self.check(lots, demands)

    def test_stocks_whose_day_has_moved(self):
        moved = 0
        for calls, told, lots, uses in moved_stocks():
            seen = ask(calls + [("plan", 1), ("tight", 1), ("counts",)])[-3:]
            demands = demands_in(calls, told, seen[0])
            left = {i: tuple(lot[1:4]) for i, lot in enumerate(lots) if lot[0] == 1}
            self.check_told(left, demands, seen[0], seen[1], sorted({day for day, doses in demands.values()}))
            moved += all(seen[2]) and bool(demands)
        # Stocks on which the day has moved and doses were used, thrown away and withdrawn, with demands left.
        self.assertGreater(moved, 30)

    def test_the_plan_gives_only_what_there_is_on_days_on_which_it_is_good(self):
        for lots, demands in chance_stocks(300, 5, 6):
            told = ask(calls_of(lots, demands) + [("plan", 1)])[-1]
            given = {number: 0 for number in lots}
            served = 0
            at = 2
            for _ in range(told[0]):
                number, lacks, parts = told[at:at + 3]
                at += 3
                got = 0
                for _ in range(parts):
                    lot, doses = told[at:at + 2]
                    at += 2
                    self.assertGreater(doses, 0)
                    self.assertTrue(plainly.good(lots[lot], demands[number][0]))
                    given[lot] += doses
                    got += doses
                self.assertEqual(got + lacks, demands[number][1])
                served += got
            self.assertEqual(at, len(told))
            self.assertEqual(served, told[1])
            for number, doses in given.items():
                self.assertLessEqual(doses, lots[number][2])

    def test_bears_and_spare_against_every_way(self):
        for lots, demands in chance_stocks(60, 3, 3):
            calls = calls_of(lots, demands)
            lacks = sum(doses for day, doses in demands.values()) - plainly.most_served(lots, demands)
            for day in DAYS:
                borne = [True]
                for doses in range(1, 8):
                    more = dict(demands)
                    more[len(demands) + 1] = (day, doses)
                    asked = sum(each[1] for each in more.values())
                    borne.append(asked - plainly.most_served(lots, more) <= lacks)
                tried = [("bears", 1, day, doses) for doses in range(1, 8)]
                told = ask(calls + tried + [("spare", 1, day)])[len(calls):]
                self.assertEqual(told[:-1], [[int(each)] for each in borne[1:]])
                if not borne[-1]:
                    self.assertEqual(told[-1], [max(doses for doses in range(8) if borne[doses])])


class NothingLacksMore(unittest.TestCase):
    def test_take_and_use(self):
        done = {"take": 0, "use": 0}
        lacked = 0
        for calls, told, lots, uses in moved_stocks():
            for at, call in enumerate(calls):
                if call[0] in done:
                    before = [lacking(plan) for plan in told[at - 2:at]]
                    behind = [lacking(plan) for plan in told[at + 1:at + 3]]
                    self.assertEqual(before, behind)
                    done[call[0]] += told[at][0] > 0
                    lacked += told[at][0] > 0 and any(before)
        self.assertGreater(min(done.values()), 100)
        self.assertGreater(lacked, 100)

    def test_use_is_refused_only_where_the_stock_does_not_bear_it(self):
        seen = set()
        for calls, told, lots, uses in moved_stocks():
            for at, call in enumerate(calls):
                if call[0] == "use":
                    self.assertEqual(told[at - 3], [int(told[at][0] > 0)])
                    seen.add(min(told[at][0], 1))
        self.assertEqual(seen, {1, -7, -9})

    def test_every_use_is_on_a_day_on_which_its_lots_are_good(self):
        for calls, told, lots, uses in moved_stocks():
            for lot, used in zip(lots, uses):
                self.assertEqual(len(used), 1 + 3 * used[0])
                for day in used[2::3]:
                    self.assertTrue(lot[1] <= day <= lot[2])

    def test_no_dose_is_lost_or_won(self):
        for calls, told, lots, uses in moved_stocks():
            thrown = sum(answer[0] for call, answer in zip(calls, told) if call[0] == "today")
            withdrawn = sum(answer[0] for call, answer in zip(calls, told) if call[0] == "withdraw")
            counts = ask(calls + [("counts",)])[-1]
            self.assertEqual(counts[4:], [thrown, withdrawn])
            used = sum(sum(each[3::3]) for each in uses)
            self.assertEqual(sum(lot[4] for lot in lots), sum(lot[3] for lot in lots) + used + thrown + withdrawn)


if __name__ == "__main__":
    unittest.main()
