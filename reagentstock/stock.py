"""The stock, the calls on it, and the line of calls that is answered as one list of whole numbers."""

from reagentstock.plan import Demand, Lot, days_asking_too_much, doses_asked_on, doses_lacking, doses_left_for
from reagentstock.plan import doses_served, plan_shares

MOST_LOTS = 40
MOST_DEMANDS = 40
LAST_ARTICLE = 8
LAST_DAY = 400
MOST_DOSES = 1000

OUT_OF_RANGE = -1
NO_ROOM = -2
BEFORE_TODAY = -3
NO_SUCH_DEMAND = -4

VIALS = 15

# How many whole numbers each call has, by its place; the row of vials comes behind its two.
WHOLE_NUMBERS = (0, 4, 3, 1, 1, 1, 1, 3, 2, 1, 2, 1, 1, 1, 1, 2, 0)


class Stock:
    def __init__(self):
        self.begin()

    def begin(self):
        self.today = 0
        self.lots = []
        self.demands = {}
        # Counted apart from the demands that are there, so that no number is given twice.
        self.demands_told = 0

    def add_lot(self, article, comes, last, doses):
        number = len(self.lots)
        self.lots.append(Lot(number, article, comes, last, doses))
        return number

    # It is not in the stock yet, so that a demand can be tried without being told.
    def next_demand(self, article, day, doses):
        return Demand(self.demands_told + 1, article, day, doses)

    def add_demand(self, demand):
        self.demands_told = demand.number
        self.demands[demand.number] = demand

    def lots_of(self, article):
        return [lot for lot in self.lots if lot.article == article]

    def demands_of(self, article):
        return [demand for demand in self.demands.values() if demand.article == article]

    def shares_of(self, article):
        return plan_shares(self.lots_of(article), self.demands_of(article))

    def lack_of(self, article):
        return doses_lacking(self.shares_of(article))

    def lack_more_with(self, demand):
        article = demand.article
        shares = plan_shares(self.lots_of(article), self.demands_of(article) + [demand])
        return doses_lacking(shares) - self.lack_of(article)


def is_article(number):
    return 1 <= number <= LAST_ARTICLE


def is_day(number):
    return 0 <= number <= LAST_DAY


def is_doses(number):
    return 1 <= number <= MOST_DOSES


def is_lot(stock, number):
    return 0 <= number < len(stock.lots)


def is_article_day_doses(given):
    return is_article(given[0]) and is_day(given[1]) and is_doses(given[2])


def answer_clear(stock, given):
    stock.begin()
    return [0]


def answer_lot(stock, given):
    article = given[0]
    comes = given[1]
    last = given[2]
    doses = given[3]
    if not (is_article(article) and is_day(comes) and comes <= last and is_day(last) and is_doses(doses)):
        return [OUT_OF_RANGE]
    if len(stock.lots) == MOST_LOTS:
        return [NO_ROOM]
    if last < stock.today:
        return [BEFORE_TODAY]
    return [stock.add_lot(article, comes, last, doses)]


def answer_demand(stock, given):
    if not is_article_day_doses(given):
        return [OUT_OF_RANGE]
    if len(stock.demands) == MOST_DEMANDS:
        return [NO_ROOM]
    if given[1] < stock.today:
        return [BEFORE_TODAY]
    demand = stock.next_demand(given[0], given[1], given[2])
    stock.add_demand(demand)
    return [demand.number, stock.lack_of(demand.article)]


def answer_cancel(stock, given):
    if given[0] not in stock.demands:
        return [NO_SUCH_DEMAND]
    demand = stock.demands.pop(given[0])
    return [demand.doses]


def tell_taken(taken):
    numbers = [len(taken)]
    for lot, doses in taken:
        numbers.extend([lot.number, doses])
    return numbers


def answer_plan(stock, given):
    if not is_article(given[0]):
        return [OUT_OF_RANGE]
    shares = stock.shares_of(given[0])
    numbers = [len(shares), doses_served(shares)]
    for share in shares:
        numbers.extend([share.demand.number, share.lacks])
        numbers.extend(tell_taken(share.taken))
    return numbers


def answer_told(stock, given):
    if not is_lot(stock, given[0]):
        return [OUT_OF_RANGE]
    lot = stock.lots[given[0]]
    return [lot.article, lot.comes, lot.last, lot.left, lot.had]


def answer_tight(stock, given):
    article = given[0]
    if not is_article(article):
        return [OUT_OF_RANGE]
    days = days_asking_too_much(stock.shares_of(article))
    asked = doses_asked_on(stock.demands_of(article), days)
    left = doses_left_for(stock.lots_of(article), days)
    return [len(days)] + days + [asked, left]


def answer_bears(stock, given):
    if not is_article_day_doses(given):
        return [OUT_OF_RANGE]
    if given[1] < stock.today:
        return [BEFORE_TODAY]
    demand = stock.next_demand(given[0], given[1], given[2])
    return [1 if stock.lack_more_with(demand) == 0 else 0]


def answer_spare(stock, given):
    if not (is_article(given[0]) and is_day(given[1])):
        return [OUT_OF_RANGE]
    if given[1] < stock.today:
        return [BEFORE_TODAY]
    # Of one demand that grows dose by dose, each dose is served on top of all the others up to some number,
    # and none behind it, for the plan serves the most there can be. So what the greatest demand makes lack
    # is all that lies behind this number.
    greatest = stock.next_demand(given[0], given[1], MOST_DOSES)
    return [MOST_DOSES - stock.lack_more_with(greatest)]


# By their places; the calls behind them are not there yet.
ANSWERING = (
    answer_clear,
    answer_lot,
    answer_demand,
    answer_cancel,
    answer_plan,
    answer_told,
    answer_tight,
    answer_bears,
    answer_spare,
)


# Each call is told as its place, its whole numbers and its row: all calls alike, though only vials has a row.
def cut_calls(line):
    calls = []
    at = 0
    while at < len(line):
        place = line[at]
        behind = at + 1 + WHOLE_NUMBERS[place]
        given = line[at + 1:behind]
        row = []
        if place == VIALS:
            first = behind + 1
            behind = first + line[behind]
            row = line[first:behind]
        calls.append((place, given, row))
        at = behind
    return calls


def answer_call(stock, place, given):
    if place >= len(ANSWERING):
        # No call that is there answers no number at all, so this can't be taken for an answer.
        return []
    return ANSWERING[place](stock, given)


def answers(calls):
    stock = Stock()
    numbers = []
    for place, given, row in cut_calls(calls):
        answer = answer_call(stock, place, given)
        numbers.append(len(answer))
        numbers.extend(answer)
    return numbers
