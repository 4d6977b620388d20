"""Lines of calls for the tests: calls by their names, and the answers call by call."""

from reagentstock.stock import answers

PLACES = {
    "clear": 0, "lot": 1, "demand": 2, "cancel": 3, "plan": 4, "told": 5, "tight": 6, "bears": 7, "spare": 8,
    "take": 9, "use": 10, "today": 11, "withdraw": 12, "used_from": 13, "waste": 14, "vials": 15, "counts": 16,
}
LEAST = -9223372036854775808
GREATEST = 9223372036854775807


def line(calls):
    """One list of whole numbers from calls such as ("told", 3)."""
    numbers = []
    for call in calls:
        numbers.append(PLACES[call[0]])
        numbers.extend(call[1:])
    return numbers


def split(numbers):
    """The answers of the calls, each as a list of its own."""
    parts = []
    at = 0
    while at < len(numbers):
        end = at + 1 + numbers[at]
        if end > len(numbers):
            raise ValueError("an answer is shorter than it says")
        parts.append(numbers[at + 1:end])
        at = end
    return parts


def ask(calls):
    """The answer of each call of a line."""
    parts = split(answers(line(calls)))
    if len(parts) != len(calls):
        raise ValueError(f"{len(calls)} calls, but {len(parts)} answers")
    return parts


def last_answer(calls):
    return ask(calls)[-1]


def view(lots):
    """Calls that tell all there is to see of a stock with so many lots, and change nothing."""
    calls = [("told", number) for number in range(lots + 1)]
    for article in range(1, 9):
        calls += [("plan", article), ("tight", article), ("spare", article, 0), ("spare", article, 5)]
    return calls
