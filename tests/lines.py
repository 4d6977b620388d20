"""Lines of calls for the tests: calls by their names, and the answers call by call."""

from reagentstock.stock import answers

PLACES = {
    "clear": 0, "lot": 1, "demand": 2, "cancel": 3, "plan": 4, "told": 5, "tight": 6, "bears": 7, "spare": 8,
    "take": 9, "use": 10, "today": 11, "withdraw": 12, "used_from": 13, "waste": 14, "vials": 15, "counts": 16,
}
LEAST = -9223372036854775808
GREATEST = 9223372036854775807


def line(calls):
    """One list of whole numbers from calls such as ("told", 3)."""
    numbers = []
    for call in calls:
        numbers.append(PLACES[call[0]])
        numbers.extend(call[1:])
    return numbers


def split(numbers):
    """The answers of the calls, each as a list of its own."""
    parts = []
    at = 0
    while at < len(numbers):
        end = at + 1 + numbers[at]
        if end > len(numbers):
            raise ValueError("an answer is shorter than it says")
        parts.append(numbers[at + 1:end])
        at = end
    return parts


def ask(calls):
    """The answer of each call of a line."""
    given = line(calls)
    if len(calls) > 300 or len(given) > 16000:
        raise ValueError("no line is so long")
    parts = split(answers(given))
    if len(parts) != len(calls):
        raise ValueError(f"{len(calls)} calls, but {len(parts)} answers")
    return parts


def last_answer(calls):
    return ask(calls)[-1]


def vials(m, life, needs):
    """A call of vials; its row has its length ahead."""
    return ("vials", m, life, len(needs), *needs)


def view(lots):
    """Calls that tell all there is to see of a stock with so many lots, and change nothing."""
    calls = [("counts",)]
    for number in range(lots + 1):
        calls += [("told", number), ("used_from", number)]
    for article in range(1, 9):
        calls += [("plan", article), ("tight", article), ("waste", article)]
        calls += [("spare", article, day) for day in (0, 5, 400)]
    return calls


def lacking(told):
    """What an article lacks: the sum over the demands that plan tells."""
    lacks = 0
    at = 2
    for _ in range(told[0]):
        lacks += told[at + 1]
        at += 3 + 2 * told[at + 2]
    return lacks
