"""The calls 0 to 4, which set a position up. Their numbers have been found to be in their ranges."""

from smallduels.position import Being, Position, Side, turned, with_side
from smallduels.refusals import FULL, NOT_THERE

MOST_BEINGS = 4
MOST_BOLTS = 3

# The mark of each key, by the key's number.
MARKS = (1, 2, 4, 8, 16)


def edit_life(duel, numbers, row):
    p = numbers[0]
    side = duel.position.sides[p]
    duel.set_up(with_side(duel.position, p, Side(numbers[1], side.beings, side.bolts)))
    return [0]


def marks_of(row):
    marks = 0
    for key in row:
        marks = marks | MARKS[key]
    return marks


def edit_being(duel, numbers, row):
    p = numbers[0]
    side = duel.position.sides[p]
    if len(side.beings) >= MOST_BEINGS:
        return [FULL]
    duel.beings_made += 1
    being = Being(duel.beings_made, numbers[1], numbers[2], marks_of(row), False)
    duel.set_up(with_side(duel.position, p, Side(side.life, side.beings + (being,), side.bolts)))
    return [0, being.number]


def edit_remove(duel, numbers, row):
    n = numbers[0]
    for p in range(2):
        side = duel.position.sides[p]
        staying = tuple([being for being in side.beings if being.number != n])
        if len(staying) < len(side.beings):
            duel.set_up(with_side(duel.position, p, Side(side.life, staying, side.bolts)))
            return [0]
    return [NOT_THERE]


def edit_bolt(duel, numbers, row):
    p = numbers[0]
    side = duel.position.sides[p]
    if len(side.bolts) >= MOST_BOLTS:
        return [FULL]
    duel.set_up(with_side(duel.position, p, Side(side.life, side.beings, side.bolts + (numbers[1],))))
    return [0]


def edit_mover(duel, numbers, row):
    p = numbers[0]
    side = duel.position.sides[p]
    straight = tuple([turned(being, False) for being in side.beings])
    position = with_side(duel.position, p, Side(side.life, straight, side.bolts))
    duel.set_up(Position(p, position.sides))
    return [0]


EDITS = {0: edit_life, 1: edit_being, 2: edit_remove, 3: edit_bolt, 4: edit_mover}


def answer_edit(duel, number, numbers, row):
    edit = EDITS[number]
    return edit(duel, numbers, row)
