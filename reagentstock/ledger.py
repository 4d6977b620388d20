"""What a stock keeps: the day, its lots, demands and uses, and how much was thrown away or withdrawn."""

from reagentstock.plan import Demand, Lot, doses_lacking, doses_of, first_expired_first, plan_shares, take_off
from reagentstock.plan import what_is_left


# What was taken is told as in the plan: pairs of a lot and how many doses.
class Use:
    def __init__(self, number, article, day, taken):
        self.number = number
        self.article = article
        self.day = day
        self.taken = taken

    def doses_from(self, lot):
        return doses_of([pair for pair in self.taken if pair[0].number == lot.number])


class Stock:
    def __init__(self):
        self.begin()

    def begin(self):
        self.today = 0
        self.lots = []
        self.demands = {}
        # Counted apart from the demands that are there, so that no number is given twice.
        self.demands_told = 0
        self.uses = []
        self.thrown_away = 0
        self.withdrawn = 0

    def add_lot(self, article, comes, last, doses):
        number = len(self.lots)
        self.lots.append(Lot(number, article, comes, last, doses))
        return number

    # It is not in the stock yet, so that a demand can be tried without being told.
    def next_demand(self, article, day, doses):
        return Demand(self.demands_told + 1, article, day, doses)

    def add_demand(self, demand):
        self.demands_told = demand.number
        self.demands[demand.number] = demand

    def lots_of(self, article):
        return [lot for lot in self.lots if lot.article == article]

    def demands_of(self, article):
        return [demand for demand in self.demands.values() if demand.article == article]

    def shares_of(self, article):
        lots = self.lots_of(article)
        return plan_shares(lots, what_is_left(lots), self.demands_of(article))

    def lack_if(self, article, taken, told):
        lots = self.lots_of(article)
        left = what_is_left(lots)
        take_off(left, taken)
        return doses_lacking(plan_shares(lots, left, self.demands_of(article) + told))

    def lack_of(self, article):
        return self.lack_if(article, [], [])

    def lack_more_with(self, demand):
        return self.lack_if(demand.article, [], [demand]) - self.lack_of(demand.article)

    def lack_more_without(self, article, taken):
        return self.lack_if(article, taken, []) - self.lack_of(article)

    # Nothing is taken yet, so that a use can be tried and still be refused.
    def takeable_now(self, article, doses):
        lots = self.lots_of(article)
        return first_expired_first(lots, what_is_left(lots), self.today, doses)

    def add_use(self, article, taken):
        for lot, doses in taken:
            lot.left -= doses
        self.uses.append(Use(len(self.uses), article, self.today, taken))

    def throw_away_before(self, day):
        past = [lot for lot in self.lots if lot.last < day]
        doses = sum([lot.left for lot in past])
        for lot in past:
            # The lot itself stays, for it may still be asked who had of it.
            lot.left = 0
        self.thrown_away += doses
        return doses

    def drop_demands_before(self, day):
        past = [demand.number for demand in self.demands.values() if demand.day < day]
        for number in past:
            self.demands.pop(number)
        return len(past)

    def withdraw_lot(self, lot):
        doses = lot.left
        lot.left = 0
        self.withdrawn += doses
        return doses
