"""The calls 10 to 16: what can be played, playing it, taking it back, and what the position is."""

from smallduels.halfturn import AT_FIRST_BEING, block_ways, choice_at, choice_count, clash_at, strike
from smallduels.position import other_of
from smallduels.refusals import NO_SUCH_BLOCK, NONE_PLAYED, NOT_THERE

CALLS_WITH_CHOICE = (11, 12, 13, 14)
CALLS_WITH_BLOCK = (13, 14)


def tell_ways(duel, numbers):
    count = choice_count(duel.position)
    blocks = [len(block_ways(clash_at(duel.position, place))) for place in range(count)]
    return [0, count, sum(blocks)]


# A place among the other side's beings would tell another being once one of them is gone, so numbers are told.
def told_aim(position, aim):
    if aim < AT_FIRST_BEING:
        return aim
    return 1 + other_of(position).beings[aim - AT_FIRST_BEING].number


def tell_choice(duel, numbers):
    aims = choice_at(duel.position, numbers[0]).aims
    attackers = clash_at(duel.position, numbers[0]).attackers
    told = [told_aim(duel.position, aim) for aim in aims]
    return [0, len(aims)] + told + [being.number for being in attackers]


def tell_blocks(duel, numbers):
    return [0, len(block_ways(clash_at(duel.position, numbers[0])))]


def tell_block(duel, numbers):
    clash = clash_at(duel.position, numbers[0])
    told = [0]
    for being, value in zip(clash.left, block_ways(clash)[numbers[1]]):
        if value > 0:
            told.extend([being.number, clash.attackers[value - 1].number])
    return told


def play_half_turn(duel, numbers):
    clash = clash_at(duel.position, numbers[0])
    duel.play(strike(clash, block_ways(clash)[numbers[1]]))
    return [0, 1 if duel.won else 0]


def undo_half_turn(duel, numbers):
    if len(duel.played) == 0:
        return [NONE_PLAYED]
    duel.take_back()
    return [0]


def told_side(side):
    told = [side.life, len(side.beings)]
    for being in side.beings:
        told.extend([being.number, being.power, being.body, being.marks, 1 if being.bent else 0])
    return told + [len(side.bolts)] + list(side.bolts)


def tell_state(duel, numbers):
    position = duel.position
    winner = 1 + position.mover if duel.won else 0
    return [0, winner, position.mover] + told_side(position.sides[0]) + told_side(position.sides[1])


PLAYS = {10: tell_ways, 11: tell_choice, 12: tell_blocks, 13: tell_block, 14: play_half_turn,
         15: undo_half_turn, 16: tell_state}


def names_no_choice(duel, number, numbers):
    return number in CALLS_WITH_CHOICE and not 0 <= numbers[0] < choice_count(duel.position)


# Asked only where the choice is there.
def names_no_block(duel, number, numbers):
    if number not in CALLS_WITH_BLOCK:
        return False
    return not 0 <= numbers[1] < len(block_ways(clash_at(duel.position, numbers[0])))


def answer_play(duel, number, numbers):
    if names_no_choice(duel, number, numbers):
        return [NOT_THERE]
    if names_no_block(duel, number, numbers):
        return [NO_SUCH_BLOCK]
    play = PLAYS[number]
    return play(duel, numbers)
