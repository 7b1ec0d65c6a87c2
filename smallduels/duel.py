"""The calls: one list of them is read, carried out on a new duel, and answered."""

from smallduels.forced import find_proof, is_proof, ways_of
from smallduels.position import Being, Position, Side, first_position, turned, with_side

BAD_NUMBER = -1
TOO_MANY_WAYS = -3
FULL = -4
NOT_THERE = -5

MOST_NUMBER = 1000000000
MOST_BEINGS = 4
MOST_BOLTS = 3
MOST_HALF_TURNS = 6
MOST_WAYS = 50000

# The mark of each key, by the key's number.
MARKS = (1, 2, 4, 8, 16)

# How many numbers stand behind a call's own, ahead of its row. The calls from 9 on are not built yet,
# but are passed over as a whole.
PLAIN_NUMBERS = {0: 2, 1: 3, 2: 1, 3: 2, 4: 1, 5: 2, 6: 2, 7: 2, 8: 2, 9: 2,
                 10: 0, 11: 1, 12: 1, 13: 2, 14: 2, 15: 0, 16: 0}
CALLS_WITH_ROW = (1, 8)


class Duel:
    def __init__(self):
        self.position = first_position()
        self.beings_made = 0
        self.proofs = {}

    # What was found out holds of the position before alone.
    def set_position(self, position):
        self.position = position
        self.proofs = {}

    # Kept, since win, hold and proof are often asked of one position.
    def proof_for(self, q, k):
        if (q, k) not in self.proofs:
            self.proofs[(q, k)] = find_proof(self.position, q, k)
        return self.proofs[(q, k)]


def is_side(p):
    return 0 <= p <= 1


def edit_life(duel, numbers, row):
    p = numbers[0]
    n = numbers[1]
    if not is_side(p) or not 1 <= n <= MOST_NUMBER:
        return [BAD_NUMBER]
    side = duel.position.sides[p]
    duel.set_position(with_side(duel.position, p, Side(n, side.beings, side.bolts)))
    return [0]


def marks_of(row):
    marks = 0
    for key in row:
        marks = marks | MARKS[key]
    return marks


def edit_being(duel, numbers, row):
    p = numbers[0]
    power = numbers[1]
    body = numbers[2]
    if not is_side(p) or not 0 <= power <= MOST_NUMBER or not 1 <= body <= MOST_NUMBER:
        return [BAD_NUMBER]
    if any([not 0 <= key < len(MARKS) for key in row]):
        return [BAD_NUMBER]
    side = duel.position.sides[p]
    if len(side.beings) >= MOST_BEINGS:
        return [FULL]
    duel.beings_made += 1
    being = Being(duel.beings_made, power, body, marks_of(row), False)
    duel.set_position(with_side(duel.position, p, Side(side.life, side.beings + (being,), side.bolts)))
    return [0, being.number]


def edit_remove(duel, numbers, row):
    n = numbers[0]
    for p in range(2):
        side = duel.position.sides[p]
        staying = tuple([being for being in side.beings if being.number != n])
        if len(staying) < len(side.beings):
            duel.set_position(with_side(duel.position, p, Side(side.life, staying, side.bolts)))
            return [0]
    return [NOT_THERE]


def edit_bolt(duel, numbers, row):
    p = numbers[0]
    n = numbers[1]
    if not is_side(p) or not 1 <= n <= MOST_NUMBER:
        return [BAD_NUMBER]
    side = duel.position.sides[p]
    if len(side.bolts) >= MOST_BOLTS:
        return [FULL]
    duel.set_position(with_side(duel.position, p, Side(side.life, side.beings, side.bolts + (n,))))
    return [0]


def edit_mover(duel, numbers, row):
    p = numbers[0]
    if not is_side(p):
        return [BAD_NUMBER]
    side = duel.position.sides[p]
    straight = tuple([turned(being, False) for being in side.beings])
    position = with_side(duel.position, p, Side(side.life, straight, side.bolts))
    duel.set_position(Position(p, position.sides))
    return [0]


def search_win(duel, q, k, row):
    return [0 if duel.proof_for(q, k) is None else 1]


# Each step of holding out is the denial of the same step of forcing a win, so one search tells both.
def search_hold(duel, q, k, row):
    return [1 if duel.proof_for(q, k) is None else 0]


def search_proof(duel, q, k, row):
    found = duel.proof_for(q, k)
    if found is None:
        return [0]
    return [1] + found


def search_check(duel, q, k, row):
    return [1 if is_proof(duel.position, q, k, row) else 0]


EDITS = {0: edit_life, 1: edit_being, 2: edit_remove, 3: edit_bolt, 4: edit_mover}
SEARCHES = {5: search_win, 6: search_hold, 7: search_proof, 8: search_check}


def answer_search(duel, number, numbers, row):
    q = numbers[0]
    k = numbers[1]
    if not is_side(q) or not 1 <= k <= MOST_HALF_TURNS:
        return [BAD_NUMBER]
    if ways_of(duel.position, k) > MOST_WAYS:
        return [TOO_MANY_WAYS]
    search = SEARCHES[number]
    return search(duel, q, k, row)


def answer(duel, number, numbers, row):
    if number in SEARCHES:
        return answer_search(duel, number, numbers, row)
    edit = EDITS.get(number)
    if edit is None:
        return [BAD_NUMBER]
    return edit(duel, numbers, row)


# For each call, in order, how many numbers are answered, and these.
def answers(calls):
    duel = Duel()
    given = []
    at = 0
    while at < len(calls):
        number = calls[at]
        end = at + 1 + PLAIN_NUMBERS.get(number, 0)
        numbers = calls[at + 1:end]
        row = []
        if number in CALLS_WITH_ROW:
            start = end + 1
            end = start + calls[end]
            row = calls[start:end]
        found = answer(duel, number, numbers, row)
        given.append(len(found))
        given.extend(found)
        at = end
    return given
