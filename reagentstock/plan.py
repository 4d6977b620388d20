"""The plan of an article: which lots serve which demands, and which days ask too much."""


class Lot:
    """Doses of an article that are good from the day they come up to their last day."""

    def __init__(self, number, article, comes, last, doses):
        self.number = number
        self.article = article
        self.comes = comes
        self.last = last
        self.left = doses
        self.had = doses


class Demand:
    """Doses of an article that are asked for on a day."""

    def __init__(self, number, article, day, doses):
        self.number = number
        self.article = article
        self.day = day
        self.doses = doses


class Share:
    """What a demand gets in the plan, as pairs of a lot and how many doses, and what it lacks."""

    def __init__(self, demand, taken):
        self.demand = demand
        self.taken = taken
        self.lacks = demand.doses - doses_of(taken)


def doses_of(taken):
    return sum([doses for lot, doses in taken])


def is_good_on(lot, day):
    return lot.comes <= day <= lot.last


def is_good_on_one(lot, days):
    return any([is_good_on(lot, day) for day in days])


def expiry(lot):
    return (lot.last, lot.number)


def turn(demand):
    return (demand.day, demand.number)


def what_is_left(lots):
    left = {}
    for lot in lots:
        left[lot.number] = lot.left
    return left


def first_expired_first(lots, left, day, doses):
    """From which lots, and how many of each, so many doses come on a day; left is told by lots' numbers."""
    taken = []
    wanting = doses
    for lot in sorted(lots, key=expiry):
        part = min(wanting, left[lot.number])
        if part > 0 and is_good_on(lot, day):
            taken.append((lot, part))
            wanting -= part
    return taken


def plan_shares(lots, demands):
    """The shares of one article's demands, in the order in which they are seen to."""
    # The plan takes nothing really, so it draws on a copy of what is left.
    left = what_is_left(lots)
    shares = []
    for demand in sorted(demands, key=turn):
        taken = first_expired_first(lots, left, demand.day, demand.doses)
        for lot, doses in taken:
            left[lot.number] -= doses
        shares.append(Share(demand, taken))
    return shares


def doses_served(shares):
    return sum([doses_of(share.taken) for share in shares])


def doses_lacking(shares):
    return sum([share.lacks for share in shares])


def draws_on(share, days):
    """Whether a demand gets something of a lot that is good on one of the days."""
    return any([is_good_on_one(lot, days) for lot, doses in share.taken])


def days_asking_too_much(shares):
    """The days that together ask too much, rising."""
    days = {}
    for share in shares:
        if share.lacks > 0:
            days[share.demand.day] = True
    grows = True
    while grows:
        # A new day brings the lots good on it, and these may bring days that were passed over before.
        before = len(days)
        for share in shares:
            if draws_on(share, days):
                days[share.demand.day] = True
        grows = len(days) > before
    return sorted(days)


def doses_asked_on(demands, days):
    return sum([demand.doses for demand in demands if demand.day in days])


def doses_left_for(lots, days):
    return sum([lot.left for lot in lots if is_good_on_one(lot, days)])
