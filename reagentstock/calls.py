"""The calls on a stock: their ranges, their refusals and their answers."""

from reagentstock.plan import days_asking_too_much, doses_asked_on, doses_left_for, doses_of, doses_served
from reagentstock.vials import days_of_opening

MOST_LOTS = 40
MOST_DEMANDS = 40
LAST_ARTICLE = 8
LAST_DAY = 400
MOST_DOSES = 1000
MOST_IN_VIAL = 100
LONGEST_LIFE = 60
LONGEST_ROW = 40
MOST_NEEDED = 100

OUT_OF_RANGE = -1
NO_ROOM = -2
BEFORE_TODAY = -3
NO_SUCH_DEMAND = -4
NOT_TODAY = -5
TOO_FEW_LEFT = -7
LACKS_MORE = -9


def is_article(number):
    return 1 <= number <= LAST_ARTICLE


def is_day(number):
    return 0 <= number <= LAST_DAY


def is_doses(number):
    return 1 <= number <= MOST_DOSES


def is_lot(stock, number):
    return 0 <= number < len(stock.lots)


def is_article_day_doses(given):
    return is_article(given[0]) and is_day(given[1]) and is_doses(given[2])


def is_row(needs):
    return len(needs) <= LONGEST_ROW and all([0 <= need <= MOST_NEEDED for need in needs])


def answer_clear(stock, given):
    stock.begin()
    return [0]


def answer_lot(stock, given):
    article = given[0]
    comes = given[1]
    last = given[2]
    doses = given[3]
    if not (is_article(article) and is_day(comes) and comes <= last and is_day(last) and is_doses(doses)):
        return [OUT_OF_RANGE]
    if len(stock.lots) == MOST_LOTS:
        return [NO_ROOM]
    if last < stock.today:
        return [BEFORE_TODAY]
    return [stock.add_lot(article, comes, last, doses)]


def answer_demand(stock, given):
    if not is_article_day_doses(given):
        return [OUT_OF_RANGE]
    if len(stock.demands) == MOST_DEMANDS:
        return [NO_ROOM]
    if given[1] < stock.today:
        return [BEFORE_TODAY]
    demand = stock.next_demand(given[0], given[1], given[2])
    stock.add_demand(demand)
    return [demand.number, stock.lack_of(demand.article)]


def answer_cancel(stock, given):
    if given[0] not in stock.demands:
        return [NO_SUCH_DEMAND]
    demand = stock.demands.pop(given[0])
    return [demand.doses]


def tell_taken(taken):
    numbers = [len(taken)]
    for lot, doses in taken:
        numbers.extend([lot.number, doses])
    return numbers


def answer_plan(stock, given):
    if not is_article(given[0]):
        return [OUT_OF_RANGE]
    shares = stock.shares_of(given[0])
    numbers = [len(shares), doses_served(shares)]
    for share in shares:
        numbers.extend([share.demand.number, share.lacks])
        numbers.extend(tell_taken(share.taken))
    return numbers


def answer_told(stock, given):
    if not is_lot(stock, given[0]):
        return [OUT_OF_RANGE]
    lot = stock.lots[given[0]]
    return [lot.article, lot.comes, lot.last, lot.left, lot.had]


def answer_tight(stock, given):
    article = given[0]
    if not is_article(article):
        return [OUT_OF_RANGE]
    days = days_asking_too_much(stock.shares_of(article))
    asked = doses_asked_on(stock.demands_of(article), days)
    left = doses_left_for(stock.lots_of(article), days)
    return [len(days)] + days + [asked, left]


def answer_bears(stock, given):
    if not is_article_day_doses(given):
        return [OUT_OF_RANGE]
    if given[1] < stock.today:
        return [BEFORE_TODAY]
    demand = stock.next_demand(given[0], given[1], given[2])
    return [1 if stock.lack_more_with(demand) == 0 else 0]


def answer_spare(stock, given):
    if not (is_article(given[0]) and is_day(given[1])):
        return [OUT_OF_RANGE]
    if given[1] < stock.today:
        return [BEFORE_TODAY]
    # Of one demand that grows dose by dose, each dose is served on top of all the others up to some number,
    # and none behind it, for the plan serves the most there can be. So what the greatest demand makes lack
    # is all that lies behind this number.
    greatest = stock.next_demand(given[0], given[1], MOST_DOSES)
    return [MOST_DOSES - stock.lack_more_with(greatest)]


def answer_take(stock, given):
    if given[0] not in stock.demands:
        return [NO_SUCH_DEMAND]
    demand = stock.demands[given[0]]
    if demand.day != stock.today:
        return [NOT_TODAY]
    taken = stock.takeable_now(demand.article, demand.doses)
    if doses_of(taken) < demand.doses:
        return [TOO_FEW_LEFT]
    stock.demands.pop(demand.number)
    stock.add_use(demand.article, taken)
    return tell_taken(taken)


def answer_use(stock, given):
    article = given[0]
    doses = given[1]
    if not (is_article(article) and is_doses(doses)):
        return [OUT_OF_RANGE]
    taken = stock.takeable_now(article, doses)
    if doses_of(taken) < doses:
        return [TOO_FEW_LEFT]
    if stock.lack_more_without(article, taken) > 0:
        return [LACKS_MORE]
    stock.add_use(article, taken)
    return tell_taken(taken)


def answer_today(stock, given):
    day = given[0]
    if not (stock.today <= day and is_day(day)):
        return [OUT_OF_RANGE]
    stock.today = day
    return [stock.throw_away_before(day), stock.drop_demands_before(day)]


def answer_withdraw(stock, given):
    if not is_lot(stock, given[0]):
        return [OUT_OF_RANGE]
    lot = stock.lots[given[0]]
    doses = stock.withdraw_lot(lot)
    return [doses, stock.lack_of(lot.article)]


def answer_used_from(stock, given):
    if not is_lot(stock, given[0]):
        return [OUT_OF_RANGE]
    lot = stock.lots[given[0]]
    uses = [use for use in stock.uses if use.doses_from(lot) > 0]
    numbers = [len(uses)]
    for use in uses:
        numbers.extend([use.number, use.day, use.doses_from(lot)])
    return numbers


def answer_waste(stock, given):
    if not is_article(given[0]):
        return [OUT_OF_RANGE]
    left = sum([lot.left for lot in stock.lots_of(given[0])])
    return [left - doses_served(stock.shares_of(given[0]))]


def answer_vials(stock, given):
    m = given[0]
    life = given[1]
    needs = given[2:]
    if not (1 <= m <= MOST_IN_VIAL and 1 <= life <= LONGEST_LIFE and is_row(needs)):
        return [OUT_OF_RANGE]
    days = days_of_opening(m, life, needs)
    return [len(days)] + days


def answer_counts(stock, given):
    there = [len(stock.lots), len(stock.demands), len(stock.uses)]
    return [stock.today] + there + [stock.thrown_away, stock.withdrawn]


# By their places.
ANSWERING = (
    answer_clear,
    answer_lot,
    answer_demand,
    answer_cancel,
    answer_plan,
    answer_told,
    answer_tight,
    answer_bears,
    answer_spare,
    answer_take,
    answer_use,
    answer_today,
    answer_withdraw,
    answer_used_from,
    answer_waste,
    answer_vials,
    answer_counts,
)


def answer_call(stock, place, given):
    return ANSWERING[place](stock, given)
