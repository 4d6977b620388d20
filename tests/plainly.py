"""The document's words once more, dose by dose, and searches that know nothing of the plan."""

from functools import lru_cache
from itertools import combinations


def good(lot, day):
    return lot[0] <= day <= lot[1]


def plan(lots, demands):
    """lots: {number: (comes, last, doses)}; demands: {number: (day, doses)}.

    Answers [(number, lacks, {lot: doses, in the order of taking})] in the order of the plan.
    """
    left = {number: lot[2] for number, lot in lots.items()}
    shares = []
    for day, number in sorted((demand[0], number) for number, demand in demands.items()):
        taken = {}
        lacks = 0
        for _ in range(demands[number][1]):
            choice = min(((lots[i][1], i) for i in lots if left[i] and good(lots[i], day)), default=None)
            if choice is None:
                lacks += 1
            else:
                left[choice[1]] -= 1
                taken[choice[1]] = taken.get(choice[1], 0) + 1
        shares.append((number, lacks, taken))
    return shares


def lack(lots, demands):
    return sum(share[1] for share in plan(lots, demands))


def tight(lots, demands):
    """The days that ask too much, what is asked on them, what is left for them."""
    shares = plan(lots, demands)
    days = {demands[number][0] for number, lacks, taken in shares if lacks}
    while True:
        more = {
            demands[number][0] for number, lacks, taken in shares
            if any(good(lots[i], day) for i in taken for day in days)
        }
        if more <= days:
            break
        days |= more
    return sorted(days), asked_on(demands, days), left_for(lots, days)


def asked_on(demands, days):
    return sum(doses for day, doses in demands.values() if day in days)


def left_for(lots, days):
    return sum(lot[2] for lot in lots.values() if any(good(lot, day) for day in days))


def bears(lots, demands, day, doses):
    more = dict(demands)
    more[max(demands, default=0) + 1] = (day, doses)
    return lack(lots, more) <= lack(lots, demands)


def spare(lots, demands, day):
    """By halves; that what is borne has no gaps is tested on its own."""
    low, high = 0, 1000
    while low < high:
        middle = (low + high + 1) // 2
        if bears(lots, demands, day, middle):
            low = middle
        else:
            high = middle - 1
    return low


def most_served(lots, demands):
    """The most doses that any way of giving lots' doses to demands serves: every way is tried."""
    spans = list(lots.values())
    asked = [day for day, doses in demands.values() for _ in range(doses)]

    @lru_cache(maxsize=None)
    def best(at, left):
        if at == len(asked):
            return 0
        most = best(at + 1, left)
        for i, rest in enumerate(left):
            if rest and good(spans[i], asked[at]):
                most = max(most, 1 + best(at + 1, left[:i] + (rest - 1,) + left[i + 1:]))
        return most

    return best(0, tuple(lot[2] for lot in spans))


def sets_of_days(days):
    for size in range(len(days) + 1):
        yield from combinations(days, size)


class Laboratory:
    """The nine calls, told by their names, in the plainest way."""

    def __init__(self):
        self.clear()

    def clear(self):
        self.lots = []
        self.demands = {}
        self.told_demands = 0
        return [0]

    def of(self, article):
        lots = {i: each[1:] for i, each in enumerate(self.lots) if each[0] == article}
        demands = {k: each[1:] for k, each in self.demands.items() if each[0] == article}
        return lots, demands

    def lot(self, article, comes, last, doses):
        if article not in range(1, 9) or comes not in range(401) or last not in range(comes, 401):
            return [-1]
        if doses not in range(1, 1001):
            return [-1]
        if len(self.lots) >= 40:
            return [-2]
        self.lots.append((article, comes, last, doses))
        return [len(self.lots) - 1]

    def demand(self, article, day, doses):
        if article not in range(1, 9) or day not in range(401) or doses not in range(1, 1001):
            return [-1]
        if len(self.demands) >= 40:
            return [-2]
        self.told_demands += 1
        self.demands[self.told_demands] = (article, day, doses)
        return [self.told_demands, lack(*self.of(article))]

    def cancel(self, k):
        if k not in self.demands:
            return [-4]
        return [self.demands.pop(k)[2]]

    def plan(self, article):
        if article not in range(1, 9):
            return [-1]
        lots, demands = self.of(article)
        shares = plan(lots, demands)
        told = [len(shares), sum(sum(share[2].values()) for share in shares)]
        for number, lacks, taken in shares:
            told += [number, lacks, len(taken)]
            for pair in taken.items():
                told += pair
        return told

    def told(self, i):
        if i not in range(len(self.lots)):
            return [-1]
        article, comes, last, doses = self.lots[i]
        return [article, comes, last, doses, doses]

    def tight(self, article):
        if article not in range(1, 9):
            return [-1]
        days, asked, left = tight(*self.of(article))
        return [len(days), *days, asked, left]

    def bears(self, article, day, doses):
        if article not in range(1, 9) or day not in range(401) or doses not in range(1, 1001):
            return [-1]
        return [int(bears(*self.of(article), day, doses))]

    def spare(self, article, day):
        if article not in range(1, 9) or day not in range(401):
            return [-1]
        return [spare(*self.of(article), day)]

    def ask(self, calls):
        return [getattr(self, call[0])(*call[1:]) for call in calls]
