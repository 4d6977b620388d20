"""The line of calls on one stock, which is answered as one list of whole numbers."""

from reagentstock.calls import answer_call
from reagentstock.ledger import Stock

VIALS = 15

# How many whole numbers each call has, by its place; the row of vials comes behind its two.
WHOLE_NUMBERS = (0, 4, 3, 1, 1, 1, 1, 3, 2, 1, 2, 1, 1, 1, 1, 2, 0)


# Each call is told as its place and its numbers. The row of vials, which alone has one, follows its whole numbers
# without its length, for behind it there's nothing that it could run into.
def cut_calls(line):
    calls = []
    at = 0
    while at < len(line):
        place = line[at]
        behind = at + 1 + WHOLE_NUMBERS[place]
        given = line[at + 1:behind]
        if place == VIALS:
            first = behind + 1
            behind = first + line[behind]
            given.extend(line[first:behind])
        calls.append((place, given))
        at = behind
    return calls


def answers(calls):
    stock = Stock()
    numbers = []
    for place, given in cut_calls(calls):
        answer = answer_call(stock, place, given)
        numbers.append(len(answer))
        numbers.extend(answer)
    return numbers
