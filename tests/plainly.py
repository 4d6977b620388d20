"""The document's words once more, dose by dose, and searches that know nothing of the plan."""

from functools import lru_cache
from itertools import combinations


def good(lot, day):
    return lot[0] <= day <= lot[1]


def plan(lots, demands):
    """lots: {number: (comes, last, doses)}; demands: {number: (day, doses)}.

    Answers [(number, lacks, {lot: doses, in the order of taking})] in the order of the plan.
    """
    left = {number: lot[2] for number, lot in lots.items()}
    shares = []
    for day, number in sorted((demand[0], number) for number, demand in demands.items()):
        taken = {}
        lacks = 0
        for _ in range(demands[number][1]):
            choice = min(((lots[i][1], i) for i in lots if left[i] and good(lots[i], day)), default=None)
            if choice is None:
                lacks += 1
            else:
                left[choice[1]] -= 1
                taken[choice[1]] = taken.get(choice[1], 0) + 1
        shares.append((number, lacks, taken))
    return shares


def lack(lots, demands):
    return sum(share[1] for share in plan(lots, demands))


def tight(lots, demands):
    """The days that ask too much, what is asked on them, what is left for them."""
    shares = plan(lots, demands)
    days = {demands[number][0] for number, lacks, taken in shares if lacks}
    while True:
        more = {
            demands[number][0] for number, lacks, taken in shares
            if any(good(lots[i], day) for i in taken for day in days)
        }
        if more <= days:
            break
        days |= more
    return sorted(days), asked_on(demands, days), left_for(lots, days)


def asked_on(demands, days):
    return sum(doses for day, doses in demands.values() if day in days)


def left_for(lots, days):
    return sum(lot[2] for lot in lots.values() if any(good(lot, day) for day in days))


def bears(lots, demands, day, doses):
    more = dict(demands)
    more[max(demands, default=0) + 1] = (day, doses)
    return lack(lots, more) <= lack(lots, demands)


def spare(lots, demands, day):
    """By halves; that what is borne has no gaps is tested on its own."""
    low, high = 0, 1000
    while low < high:
        middle = (low + high + 1) // 2
        if bears(lots, demands, day, middle):
            low = middle
        else:
            high = middle - 1
    return low


def most_served(lots, demands):
    """The most doses that any way of giving lots' doses to demands serves: every way is tried."""
    spans = list(lots.values())
    asked = [day for day, doses in demands.values() for _ in range(doses)]

    @lru_cache(maxsize=None)
    def best(at, left):
        if at == len(asked):
            return 0
        most = best(at + 1, left)
        for i, rest in enumerate(left):
            if rest and good(spans[i], asked[at]):
                most = max(most, 1 + best(at + 1, left[:i] + (rest - 1,) + left[i + 1:]))
        return most

    return best(0, tuple(lot[2] for lot in spans))


def sets_of_days(days):
    for size in range(len(days) + 1):
        yield from combinations(days, size)


def fewest_vials(m, life, needs):
    """The fewest vials that would do: for each dose, every open vial and a new one are tried."""
    days = [day for day, need in enumerate(needs) for _ in range(need)]

    @lru_cache(maxsize=None)
    def best(at, opened):
        if at == len(days):
            return 0
        day = days[at]
        usable = tuple((last, left) for last, left in opened if left and last >= day)
        fewest = 1 + best(at + 1, tuple(sorted(usable + ((day + life - 1, m - 1),))))
        for i, (last, left) in enumerate(usable):
            rest = usable[:i] + ((last, left - 1),) + usable[i + 1:]
            fewest = min(fewest, best(at + 1, tuple(sorted(rest))))
        return fewest

    return best(0, ())


def opened_vials(m, life, needs):
    """The document's words on vials, dose by dose: the day on which each is opened."""
    opened = []
    for day, need in enumerate(needs):
        for _ in range(need):
            usable = [vial for vial in opened if vial["left"] and vial["day"] <= day < vial["day"] + life]
            if usable:
                vial = min(usable, key=lambda each: each["day"] + life - 1)
            else:
                vial = {"day": day, "left": m}
                opened.append(vial)
            vial["left"] -= 1
    return [vial["day"] for vial in opened]


class Laboratory:
    """The seventeen calls, told by their names, in the plainest way."""

    def __init__(self):
        self.clear()

    def clear(self):
        self.day = 0
        self.lots = []
        self.left = []
        self.demands = {}
        self.told_demands = 0
        self.uses = []
        self.thrown = 0
        self.called_back = 0
        return [0]

    def of(self, article):
        lots = {i: (*each[1:3], self.left[i]) for i, each in enumerate(self.lots) if each[0] == article}
        demands = {k: each[1:] for k, each in self.demands.items() if each[0] == article}
        return lots, demands

    def lot(self, article, comes, last, doses):
        if article not in range(1, 9) or comes not in range(401) or last not in range(comes, 401):
            return [-1]
        if doses not in range(1, 1001):
            return [-1]
        if len(self.lots) >= 40:
            return [-2]
        if last < self.day:
            return [-3]
        self.lots.append((article, comes, last, doses))
        self.left.append(doses)
        return [len(self.lots) - 1]

    def demand(self, article, day, doses):
        if article not in range(1, 9) or day not in range(401) or doses not in range(1, 1001):
            return [-1]
        if len(self.demands) >= 40:
            return [-2]
        if day < self.day:
            return [-3]
        self.told_demands += 1
        self.demands[self.told_demands] = (article, day, doses)
        return [self.told_demands, lack(*self.of(article))]

    def cancel(self, k):
        if k not in self.demands:
            return [-4]
        return [self.demands.pop(k)[2]]

    def plan(self, article):
        if article not in range(1, 9):
            return [-1]
        lots, demands = self.of(article)
        shares = plan(lots, demands)
        told = [len(shares), sum(sum(share[2].values()) for share in shares)]
        for number, lacks, taken in shares:
            told += [number, lacks, *self.tell(taken)]
        return told

    def tell(self, taken):
        told = [len(taken)]
        for pair in taken.items():
            told += pair
        return told

    def told(self, i):
        if i not in range(len(self.lots)):
            return [-1]
        article, comes, last, had = self.lots[i]
        return [article, comes, last, self.left[i], had]

    def tight(self, article):
        if article not in range(1, 9):
            return [-1]
        days, asked, left = tight(*self.of(article))
        return [len(days), *days, asked, left]

    def bears(self, article, day, doses):
        if article not in range(1, 9) or day not in range(401) or doses not in range(1, 1001):
            return [-1]
        if day < self.day:
            return [-3]
        return [int(bears(*self.of(article), day, doses))]

    def spare(self, article, day):
        if article not in range(1, 9) or day not in range(401):
            return [-1]
        if day < self.day:
            return [-3]
        return [spare(*self.of(article), day)]

    def take(self, k):
        if k not in self.demands:
            return [-4]
        article, day, doses = self.demands[k]
        if day != self.day:
            return [-5]
        lots, demands = self.of(article)
        ((number, lacks, taken),) = plan(lots, {k: (day, doses)})
        if lacks:
            return [-7]
        self.demands.pop(k)
        return self.keep_use(taken)

    def use(self, article, doses):
        if article not in range(1, 9) or doses not in range(1, 1001):
            return [-1]
        lots, demands = self.of(article)
        ((number, lacks, taken),) = plan(lots, {0: (self.day, doses)})
        if lacks:
            return [-7]
        rest = {i: (comes, last, left - taken.get(i, 0)) for i, (comes, last, left) in lots.items()}
        if lack(rest, demands) > lack(lots, demands):
            return [-9]
        return self.keep_use(taken)

    def keep_use(self, taken):
        for i, doses in taken.items():
            self.left[i] -= doses
        self.uses.append((self.day, taken))
        return self.tell(taken)

    def today(self, day):
        if day not in range(self.day, 401):
            return [-1]
        self.day = day
        thrown = 0
        for i, lot in enumerate(self.lots):
            if lot[2] < day:
                thrown += self.left[i]
                self.left[i] = 0
        self.thrown += thrown
        kept = {k: each for k, each in self.demands.items() if each[1] >= day}
        gone = len(self.demands) - len(kept)
        self.demands = kept
        return [thrown, gone]

    def withdraw(self, i):
        if i not in range(len(self.lots)):
            return [-1]
        doses = self.left[i]
        self.left[i] = 0
        self.called_back += doses
        return [doses, lack(*self.of(self.lots[i][0]))]

    def used_from(self, i):
        if i not in range(len(self.lots)):
            return [-1]
        found = [[number, day, taken[i]] for number, (day, taken) in enumerate(self.uses) if i in taken]
        return [len(found), *(each for use in found for each in use)]

    def waste(self, article):
        if article not in range(1, 9):
            return [-1]
        lots, demands = self.of(article)
        rest = {i: lot[2] for i, lot in lots.items()}
        for number, lacks, taken in plan(lots, demands):
            for i, doses in taken.items():
                rest[i] -= doses
        return [sum(rest.values())]

    def vials(self, m, life, length, *needs):
        if m not in range(1, 101) or life not in range(1, 61) or length > 40:
            return [-1]
        if any(need not in range(101) for need in needs):
            return [-1]
        days = opened_vials(m, life, needs)
        return [len(days), *days]

    def counts(self):
        return [self.day, len(self.lots), len(self.demands), len(self.uses), self.thrown, self.called_back]

    def ask(self, calls):
        return [getattr(self, call[0])(*call[1:]) for call in calls]
