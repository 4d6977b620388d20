"""Vials that keep only so many days once they're opened."""


def days_of_opening(m, life, needs):
    days = []
    # A vial is opened only when no open one has any left. So at most one has: the one that was opened last.
    left = 0
    for day, need in enumerate(needs):
        if days and day >= days[-1] + life:
            left = 0
        wanting = need
        while wanting > 0:
            if left == 0:
                days.append(day)
                left = m
            part = min(wanting, left)
            left -= part
            wanting -= part
    return days
