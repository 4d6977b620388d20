"""The plan of an article: which lots serve which demands, and which days ask too much."""


class Lot:
    def __init__(self, number, article, comes, last, doses):
        self.number = number
        self.article = article
        self.comes = comes
        self.last = last
        self.left = doses
        self.had = doses


class Demand:
    def __init__(self, number, article, day, doses):
        self.number = number
        self.article = article
        self.day = day
        self.doses = doses


# What one demand gets and lacks in the plan. What is taken is told, here and below, as pairs of a lot and how many
# doses, because whoever looks at the plan needs the lots' days too.
class Share:
    def __init__(self, demand, taken):
        self.demand = demand
        self.taken = taken
        self.lacks = demand.doses - doses_of(taken)


def doses_of(taken):
    return sum([doses for lot, doses in taken])


def is_good_on(lot, day):
    return lot.comes <= day <= lot.last


def is_good_on_one(lot, days):
    return any([is_good_on(lot, day) for day in days])


def expiry(lot):
    return (lot.last, lot.number)


def turn(demand):
    return (demand.day, demand.number)


def what_is_left(lots):
    left = {}
    for lot in lots:
        left[lot.number] = lot.left
    return left


# What is left stands beside the lots, by their numbers, because a plan may have given away some of it already.
def first_expired_first(lots, left, day, doses):
    taken = []
    wanting = doses
    for lot in sorted(lots, key=expiry):
        part = min(wanting, left[lot.number])
        if part > 0 and is_good_on(lot, day):
            taken.append((lot, part))
            wanting -= part
    return taken


def take_off(left, taken):
    for lot, doses in taken:
        left[lot.number] -= doses


def plan_shares(lots, left, demands):
    # The plan takes nothing really, so it draws on a copy of what is left.
    rest = dict(left)
    shares = []
    for demand in sorted(demands, key=turn):
        taken = first_expired_first(lots, rest, demand.day, demand.doses)
        take_off(rest, taken)
        shares.append(Share(demand, taken))
    return shares


def doses_served(shares):
    return sum([doses_of(share.taken) for share in shares])


def doses_lacking(shares):
    return sum([share.lacks for share in shares])


def draws_on(share, days):
    return any([is_good_on_one(lot, days) for lot, doses in share.taken])


def days_asking_too_much(shares):
    days = {}
    for share in shares:
        if share.lacks > 0:
            days[share.demand.day] = True
    grows = True
    while grows:
        # A new day brings the lots good on it, and these may bring days that were passed over before.
        before = len(days)
        for share in shares:
            if draws_on(share, days):
                days[share.demand.day] = True
        grows = len(days) > before
    return sorted(days)


def doses_asked_on(demands, days):
    return sum([demand.doses for demand in demands if demand.day in days])


def doses_left_for(lots, days):
    return sum([lot.left for lot in lots if is_good_on_one(lot, days)])
