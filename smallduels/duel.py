"""The calls: one list of them is read, carried out on a new duel, and answered."""

from smallduels.edits import answer_edit
from smallduels.forced import ways_of
from smallduels.game import Duel
from smallduels.playing import answer_play
from smallduels.refusals import BAD_NUMBER, TOO_MANY_WAYS, WON
from smallduels.searches import answer_search

# The least and the greatest of each number that stands behind a call's own, by the call's own.
RANGES = {
    0: ((0, 1), (1, 1000000000)),
    1: ((0, 1), (0, 1000000000), (1, 1000000000)),
    2: ((-1000000000, 1000000000),),
    3: ((0, 1), (1, 1000000000)),
    4: ((0, 1),),
    5: ((0, 1), (1, 6)),
    6: ((0, 1), (1, 6)),
    7: ((0, 1), (1, 6)),
    8: ((0, 1), (1, 6)),
    9: ((0, 1), (1, 6)),
    10: (),
    11: ((-1000000000, 1000000000),),
    12: ((-1000000000, 1000000000),),
    13: ((-1000000000, 1000000000), (-1000000000, 1000000000)),
    14: ((-1000000000, 1000000000), (-1000000000, 1000000000)),
    15: (),
    16: (),
}
# The least and the greatest number of a call's row, of the calls that have one.
ROW_RANGES = {1: (0, 4), 8: (-1000000000, 1000000000)}

LAST_EDIT = 4
LAST_SEARCH = 9
LAST_CALL_OF_A_GOING_DUEL = 14
MOST_WAYS = 50000


def is_within(number, ends):
    return ends[0] <= number <= ends[1]


def are_within_ranges(number, numbers, row):
    if not all([is_within(value, ends) for value, ends in zip(numbers, RANGES[number])]):
        return False
    return all([is_within(value, ROW_RANGES[number]) for value in row])


# How many half-turns a call goes through, so that there may be too many ways for it.
def half_turns_of(number, numbers):
    if number <= LAST_EDIT or number > LAST_CALL_OF_A_GOING_DUEL:
        return 0
    if number <= LAST_SEARCH:
        return numbers[1]
    return 1


def answer(duel, number, numbers, row):
    if number not in RANGES or not are_within_ranges(number, numbers, row):
        return [BAD_NUMBER]
    if duel.won and number <= LAST_CALL_OF_A_GOING_DUEL:
        return [WON]
    if ways_of(duel.position, half_turns_of(number, numbers)) > MOST_WAYS:
        return [TOO_MANY_WAYS]
    if number <= LAST_EDIT:
        return answer_edit(duel, number, numbers, row)
    if number <= LAST_SEARCH:
        return answer_search(duel, number, numbers, row)
    return answer_play(duel, number, numbers)


# For each call, in order, how many numbers are answered, and these.
def answers(calls):
    duel = Duel()
    given = []
    at = 0
    while at < len(calls):
        number = calls[at]
        end = at + 1 + len(RANGES.get(number, ()))
        numbers = calls[at + 1:end]
        row = []
        if number in ROW_RANGES:
            start = end + 1
            end = start + calls[end]
            row = calls[start:end]
        found = answer(duel, number, numbers, row)
        given.append(len(found))
        given.extend(found)
        at = end
    return given
