"""Lines as a whole: how they are cut, that nothing is changed or kept, and long ones."""

import random
import unittest

from lines import GREATEST, LEAST, PLACES, ask, line, split, vials
from plainly import Laboratory
from reagentstock.stock import answers, cut_calls

ASKING = ("plan", "told", "tight", "bears", "spare", "used_from", "waste", "vials", "counts")
CHANGING = ("lot", "demand", "use") * 8 + ("take",) * 12 + ("cancel", "today", "withdraw") * 3 + ("clear",)


def asking_line():
    """300 calls with 40 lots and 40 demands, which the calls that ask for the plan look at."""
    calls = [("lot", 1, (7 * k) % 40, (7 * k) % 40 + k % 9, 1 + 11 * k % 30) for k in range(40)]
    calls += [("demand", 1, (13 * k) % 44, 1 + 17 * k % 40) for k in range(40)]
    for k in range(44):
        calls += [("plan", 1), ("tight", 1), ("bears", 1, k, 1 + k % 5), ("spare", 1, k), ("told", k)]
    return calls


def long_line():
    """300 calls of all seventeen kinds, with 40 lots and 40 demands; the day moves on and on."""
    calls = [("lot", 1 + k % 2, (3 * k) % 20, (3 * k) % 20 + k % 9, 5 + 11 * k % 30) for k in range(40)]
    calls += [("demand", 1 + k % 2, (13 * k) % 20, 1 + 5 * k % 12) for k in range(40)]
    for k in range(12):
        article = 1 + k % 2
        calls += [("today", k), ("use", article, 1 + k % 4), ("use", 3 - article, 2)]
        # The demands of the day k, of those that are told above.
        calls += [("take", 1 + 17 * k % 20), ("take", 21 + 17 * k % 20)]
        calls += [("withdraw", 3 * k), ("cancel", 40 - k), ("used_from", 2 * k), ("told", 2 * k), ("plan", article)]
        calls += [("tight", article), ("waste", article), ("bears", article, k + 2, 3), ("spare", article, k + 1)]
        calls += [vials(1 + k, 2, [k, 0, 2 * k]), ("demand", article, k + 3, 2), ("counts",)]
    calls += [("used_from", number) for number in range(12)]
    return calls + [("clear",), ("counts",), ("lot", 1, 0, 3, 5), ("use", 1, 4)]


def chance_call(chance):
    """A call, mostly with arguments in their ranges."""
    name = chance.choice(CHANGING + ASKING * 2)
    article = chance.choice((1, 1, 1, 2, 2, 8, 0, 9)) if chance.random() < 0.3 else chance.choice((1, 2))
    day = chance.choice((-1, 0, 400, 401)) if chance.random() < 0.05 else chance.randint(0, 12)
    soon = chance.choice((-1, 401)) if chance.random() < 0.05 else chance.randint(0, 6)
    last = day + chance.choice((-1, 0, 1, 2, 5))
    doses = chance.choice((0, 1, 1000, 1001)) if chance.random() < 0.05 else chance.randint(1, 9)
    number = chance.randint(-1, 20)
    needs = [chance.choice((0, 1, 2, 5, 9)) for _ in range(chance.randint(0, 9))]
    return {
        "clear": ("clear",), "lot": ("lot", article, min(day, soon), last, doses),
        "demand": ("demand", article, chance.choice((day, soon)), chance.choice((doses, 1 + doses // 4))),
        "cancel": ("cancel", number), "plan": ("plan", article), "told": ("told", number), "tight": ("tight", article),
        "bears": ("bears", article, day, doses), "spare": ("spare", article, day), "take": ("take", number),
        "use": ("use", article, chance.choice((doses, 1 + doses // 4))), "today": ("today", soon),
        "withdraw": ("withdraw", number), "used_from": ("used_from", number), "waste": ("waste", article),
        "vials": vials(doses, chance.randint(0, 4), needs), "counts": ("counts",),
    }[name]


class Cutting(unittest.TestCase):
    def test_all_seventeen(self):
        calls = [
            ("clear",), ("lot", 11, 12, 13, 14), ("demand", 21, 22, 23), ("cancel", 31), ("plan", 41), ("told", 51),
            ("tight", 61), ("bears", 71, 72, 73), ("spare", 81, 82), ("take", 91), ("use", 101, 102), ("today", 111),
            ("withdraw", 121), ("used_from", 131), ("waste", 141), ("vials", 151, 152, 3, 153, 154, 155), ("counts",),
        ]
        expected = [(PLACES[call[0]], list(call[1:])) for call in calls]
        expected[15] = (15, [151, 152, 153, 154, 155])
        self.assertEqual(cut_calls(line(calls)), expected)
        self.assertEqual(cut_calls(line(calls[::-1])), expected[::-1])

    def test_rows(self):
        row = [LEAST, GREATEST] * 25
        self.assertEqual(cut_calls([15, LEAST, GREATEST, 0, 16]), [(15, [LEAST, GREATEST]), (16, [])])
        self.assertEqual(cut_calls([15, 3, 4, 50] + row + [5, 0]), [(15, [3, 4] + row), (5, [0])])

    def test_what_looks_like_a_call_within_a_call(self):
        told = answers([1, 1, 1, 1, 1, 5, 0, 2, 4, 4, 4, 4, 4])
        self.assertEqual(told, [1, 0, 5, 1, 1, 1, 1, 1, 2, 1, 4, 5, 1, 0, 1, 4, 0])

    def test_every_call_is_answered_with_one_number_at_least(self):
        calls = long_line()
        self.assertEqual({call[0] for call in calls}, set(PLACES))
        self.assertEqual([answer for answer in ask(calls) if not answer], [])


class NothingKept(unittest.TestCase):
    def test_the_list_handed_in_is_the_same_afterwards(self):
        short = [vials(1, 1, [3, 3]), ("lot", 1, 0, 0, 1), ("cancel", GREATEST)]
        for calls in (long_line(), asking_line(), [("clear",)], short):
            given = line(calls)
            before = list(given)
            told = answers(given)
            self.assertEqual(given, before)
            self.assertIsNot(told, given)

    def test_the_same_list_twice(self):
        given = line(long_line())
        first = answers(given)
        kept = list(first)
        first.clear()
        self.assertEqual(answers(given), kept)

    def test_every_line_begins_with_nothing(self):
        answers(line(long_line()))
        answers(line(long_line()[:290] + [("today", 15), ("withdraw", 5), ("demand", 1, 19, 1)]))
        told = ask([("told", 0), ("cancel", 1), ("plan", 1), ("counts",), ("used_from", 0), ("demand", 1, 0, 1)])
        self.assertEqual(told, [[-1], [-4], [0, 0], [0] * 6, [-1], [1, 1]])

    def test_answers_are_whole_numbers_in_a_list(self):
        told = answers(line(long_line()))
        self.assertIs(type(told), list)
        self.assertEqual({type(number) for number in told}, {int})


class LongLines(unittest.TestCase):
    def test_300_calls_of_all_kinds_with_40_lots_and_40_demands(self):
        calls = long_line()
        self.assertEqual(len(calls), 300)
        told = ask(calls)
        self.assertEqual(told, Laboratory().ask(calls))
        self.assertEqual([told[39], told[79][0]], [[39], 40])
        done = {name: [each for call, each in zip(calls, told) if call[0] == name and each[0] > 0] for name in PLACES}
        for name in ("take", "use", "today", "withdraw", "used_from", "waste", "vials"):
            self.assertGreater(len(done[name]), 3, name)

    def test_300_calls_that_ask_with_40_lots_and_40_demands(self):
        calls = asking_line()
        self.assertEqual(len(calls), 300)
        told = ask(calls)
        self.assertEqual(told, Laboratory().ask(calls))
        self.assertEqual(told[39], [39])
        self.assertEqual(told[79][0], 40)
        self.assertEqual(told[80][0], 40)
        self.assertGreater(told[81][0], 1)

    def test_as_many_uses_as_a_line_lets_be(self):
        calls = [("lot", 1, 0, 400, 1000)] + [("use", 1, 3)] * 299
        self.assertEqual(ask(calls), [[0]] + [[1, 0, 3]] * 299)
        calls = [("lot", 1, 0, 400, 1000)] + [("use", 1, 3)] * 297 + [("used_from", 0), ("counts",)]
        uses = [each for number in range(297) for each in (number, 0, 3)]
        self.assertEqual(ask(calls)[298:], [[297] + uses, [0, 1, 0, 297, 0, 0]])

    def test_many_uses_of_forty_lots(self):
        calls = [("lot", 1, 0, 400, 5)] * 40 + [("use", 1, 1)] * 199 + [("use", 1, 2), ("use", 1, 1)]
        calls += [("used_from", number) for number in range(40)] + [("counts",)]
        told = ask(calls)
        self.assertEqual(told[40:241], [[1, number // 5, 1] for number in range(199)] + [[-7], [1, 39, 1]])
        for number in range(40):
            uses = [each for use in range(5 * number, 5 * number + 5) for each in (use, 0, 1)]
            self.assertEqual(told[241 + number], [5] + uses)
        self.assertEqual(told[281], [0, 40, 0, 200, 0, 0])

    def test_many_long_rows(self):
        day_by_day = [4000] + [day for day in range(40) for _ in range(100)]
        self.assertEqual(ask([vials(1, 60, [100] * 40)] * 200), [day_by_day] * 200)

    def test_300_times_the_same(self):
        for call, answer in ((("clear",), [0]), (("tight", 8), [0, 0, 0]), (("spare", 9, 0), [-1])):
            self.assertEqual(ask([call] * 300), [answer] * 300)

    def test_a_chain_of_40_days_asked_again_and_again(self):
        calls = [("lot", 2, 0, 400, 1000)] + [("lot", 1, day, day + 1, 1000) for day in range(39)]
        calls += [("demand", 1, day, 1000) for day in range(40)] + [("tight", 1)] * 220
        self.assertEqual(ask(calls)[80:], [[40] + list(range(40)) + [40000, 39000]] * 220)

    def test_lines_by_chance(self):
        chance = random.Random(7)
        seen = {}
        for _ in range(400):
            calls = [chance_call(chance) for _ in range(chance.randint(1, 90))]
            told = ask(calls)
            self.assertEqual(told, Laboratory().ask(calls))
            for call, answer in zip(calls, told):
                seen.setdefault(call[0], set()).add(min(answer[0], 1))
        # Each refusal must really have come by, or the comparison would say little.
        self.assertEqual(set(seen), set(PLACES))
        self.assertLessEqual({1, -4, -5, -7}, seen["take"])
        self.assertLessEqual({1, -1, -7, -9}, seen["use"])
        self.assertLessEqual({1, 0, -1}, seen["today"] & seen["withdraw"] & seen["used_from"] & seen["waste"])
        self.assertLessEqual({1, -1, -3}, seen["lot"] & seen["demand"])
        self.assertLessEqual({1, 0, -3}, seen["bears"] & seen["spare"])

    def test_split_sees_a_wrong_count(self):
        self.assertRaises(ValueError, split, [3, 1])


if __name__ == "__main__":
    unittest.main()
