"""Lines as a whole: how they are cut, that nothing is changed or kept, and long ones."""

import random
import unittest

from lines import GREATEST, LEAST, PLACES, ask, line, split
from plainly import Laboratory
from reagentstock.stock import answers, cut_calls

ASKING = ("plan", "told", "tight", "bears", "spare")


def long_line():
    """300 calls with 40 lots and 40 demands, which all of the asking calls look at."""
    calls = [("lot", 1, (7 * k) % 40, (7 * k) % 40 + k % 9, 1 + 11 * k % 30) for k in range(40)]
    calls += [("demand", 1, (13 * k) % 44, 1 + 17 * k % 40) for k in range(40)]
    for k in range(44):
        calls += [("plan", 1), ("tight", 1), ("bears", 1, k, 1 + k % 5), ("spare", 1, k), ("told", k)]
    return calls


def chance_call(chance):
    """A call, mostly with arguments in their ranges."""
    names = ("lot", "demand") * 12 + ("cancel",) * 4 + ASKING * 4 + ("clear",)
    name = chance.choice(names)
    article = chance.choice((1, 1, 1, 2, 2, 8, 0, 9)) if chance.random() < 0.3 else chance.choice((1, 2))
    day = chance.choice((-1, 0, 400, 401)) if chance.random() < 0.05 else chance.randint(0, 12)
    last = day + chance.choice((-1, 0, 1, 2, 5))
    doses = chance.choice((0, 1, 1000, 1001)) if chance.random() < 0.05 else chance.randint(1, 9)
    number = chance.randint(-1, 20)
    return {
        "clear": ("clear",), "lot": ("lot", article, day, last, doses), "demand": ("demand", article, day, doses),
        "cancel": ("cancel", number), "plan": ("plan", article), "told": ("told", number), "tight": ("tight", article),
        "bears": ("bears", article, day, doses), "spare": ("spare", article, day),
    }[name]


class Cutting(unittest.TestCase):
    def test_all_seventeen(self):
        calls = [
            ("clear",), ("lot", 11, 12, 13, 14), ("demand", 21, 22, 23), ("cancel", 31), ("plan", 41), ("told", 51),
            ("tight", 61), ("bears", 71, 72, 73), ("spare", 81, 82), ("take", 91), ("use", 101, 102), ("today", 111),
            ("withdraw", 121), ("used_from", 131), ("waste", 141), ("vials", 151, 152, 3, 153, 154, 155), ("counts",),
        ]
        expected = [(PLACES[call[0]], list(call[1:]), []) for call in calls]
        expected[15] = (15, [151, 152], [153, 154, 155])
        self.assertEqual(cut_calls(line(calls)), expected)
        self.assertEqual(cut_calls(line(calls[::-1])), expected[::-1])

    def test_rows(self):
        row = [LEAST, GREATEST] * 25
        self.assertEqual(cut_calls([15, LEAST, GREATEST, 0, 16]), [(15, [LEAST, GREATEST], []), (16, [], [])])
        self.assertEqual(cut_calls([15, 3, 4, 50] + row + [5, 0]), [(15, [3, 4], row), (5, [0], [])])

    def test_what_looks_like_a_call_within_a_call(self):
        told = answers([1, 1, 1, 1, 1, 5, 0, 2, 4, 4, 4, 4, 4])
        self.assertEqual(told, [1, 0, 5, 1, 1, 1, 1, 1, 2, 1, 4, 5, 1, 0, 1, 4, 0])

    def test_calls_to_come_answer_no_number_and_change_nothing(self):
        stock = [("lot", 1, 0, 5, 4), ("demand", 1, 0, 3)]
        later = [("take", 1), ("use", 1, 1), ("today", 3), ("withdraw", 0), ("used_from", 0), ("waste", 1)]
        later += [("vials", 10, 2, 3, 1, 2, 3), ("counts",)]
        seen = [("told", 0), ("plan", 1), ("spare", 1, 0), ("lot", 1, 0, 0, 1)]
        told = ask(stock + later + seen)
        self.assertEqual(told[2:10], [[]] * 8)
        self.assertEqual(told[10:], [[1, 0, 5, 4, 4], [1, 3, 1, 0, 1, 0, 3], [1], [1]])


class NothingKept(unittest.TestCase):
    def test_the_list_handed_in_is_the_same_afterwards(self):
        for calls in (long_line(), [("clear",)], [("vials", 1, 1, 2, 3, 3), ("lot", 1, 0, 0, 1), ("cancel", GREATEST)]):
            given = line(calls)
            before = list(given)
            told = answers(given)
            self.assertEqual(given, before)
            self.assertIsNot(told, given)

    def test_the_same_list_twice(self):
        given = line(long_line())
        first = answers(given)
        kept = list(first)
        first.clear()
        self.assertEqual(answers(given), kept)

    def test_every_line_begins_with_nothing(self):
        answers(line(long_line()))
        told = ask([("told", 0), ("cancel", 1), ("plan", 1), ("demand", 1, 0, 1)])
        self.assertEqual(told, [[-1], [-4], [0, 0], [1, 1]])

    def test_answers_are_whole_numbers_in_a_list(self):
        told = answers(line(long_line()))
        self.assertIs(type(told), list)
        self.assertEqual({type(number) for number in told}, {int})


class LongLines(unittest.TestCase):
    def test_300_calls_with_40_lots_and_40_demands(self):
        calls = long_line()
        self.assertEqual(len(calls), 300)
        told = ask(calls)
        self.assertEqual(told, Laboratory().ask(calls))
        self.assertEqual(told[39], [39])
        self.assertEqual(told[79][0], 40)
        self.assertEqual(told[80][0], 40)
        self.assertGreater(told[81][0], 1)

    def test_300_times_the_same(self):
        for call, answer in ((("clear",), [0]), (("tight", 8), [0, 0, 0]), (("spare", 9, 0), [-1])):
            self.assertEqual(ask([call] * 300), [answer] * 300)

    def test_a_chain_of_40_days_asked_again_and_again(self):
        calls = [("lot", 2, 0, 400, 1000)] + [("lot", 1, day, day + 1, 1000) for day in range(39)]
        calls += [("demand", 1, day, 1000) for day in range(40)] + [("tight", 1)] * 220
        self.assertEqual(ask(calls)[80:], [[40] + list(range(40)) + [40000, 39000]] * 220)

    def test_lines_by_chance(self):
        chance = random.Random(7)
        for _ in range(150):
            calls = [chance_call(chance) for _ in range(chance.randint(1, 60))]
            self.assertEqual(ask(calls), Laboratory().ask(calls))

    def test_split_sees_a_wrong_count(self):
        self.assertRaises(ValueError, split, [3, 1])


if __name__ == "__main__":
    unittest.main()
