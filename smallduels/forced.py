"""Forced wins: how many ways there are, finding a proof, and checking one.

What calls itself here goes k deep, and k is at most 6.
"""

from smallduels.halfturn import (
    block_ways,
    choice_count,
    choices_against,
    clash_at,
    power_of,
    strike,
)
from smallduels.position import mover_of, other_of

# Told in the place of where a proof ends, which is never below 0.
NO_PROOF = -1


def ways_of_half_turn(mover, other):
    return choices_against(mover, other) * power_of(len(mover.beings) + 1, len(other.beings))


def ways_of(position, k):
    mover = mover_of(position)
    other = other_of(position)
    product = 1
    for turn in range(k):
        if turn % 2 == 0:
            product *= ways_of_half_turn(mover, other)
        else:
            product *= ways_of_half_turn(other, mover)
    return product


# The proof that is told, or None if q can't force a win within k half-turns.
def find_proof(position, q, k):
    if k == 0:
        return None
    if position.mover == q:
        return proof_by_choice(position, q, k)
    return proof_by_answers(position, q, k)


def proof_by_choice(position, q, k):
    for place in range(choice_count(position)):
        clash = clash_at(position, place)
        rest = proof_behind_all_blocks(clash, q, k)
        if rest is not None:
            return [place] + rest
    return None


# None if there is a way to block behind which there is no proof.
def proof_behind_all_blocks(clash, q, k):
    row = []
    for way in block_ways(clash):
        after = strike(clash, way)
        if after is not None:
            rest = find_proof(after, q, k - 1)
            if rest is None:
                return None
            row.extend(rest)
    return row


def proof_by_answers(position, q, k):
    row = []
    for place in range(choice_count(position)):
        clash = clash_at(position, place)
        rest = proof_behind_first_block(clash, q, k)
        if rest is None:
            return None
        row.extend(rest)
    return row


# With the place of that way to block ahead of it; None if there is a proof behind none of them.
def proof_behind_first_block(clash, q, k):
    for place, way in enumerate(block_ways(clash)):
        after = strike(clash, way)
        if after is not None:
            rest = find_proof(after, q, k - 1)
            if rest is not None:
                return [place] + rest
    return None


def is_proof(position, q, k, row):
    return follow(position, q, k, row, 0) == len(row)


# Where the proof that begins in the row at start ends, or NO_PROOF.
def follow(position, q, k, row, start):
    if k == 0:
        return NO_PROOF
    if position.mover == q:
        return follow_choice(position, q, k, row, start)
    return follow_answers(position, q, k, row, start)


def follow_choice(position, q, k, row, start):
    if start >= len(row) or not 0 <= row[start] < choice_count(position):
        return NO_PROOF
    clash = clash_at(position, row[start])
    end = start + 1
    for way in block_ways(clash):
        after = strike(clash, way)
        if after is not None:
            end = follow(after, q, k - 1, row, end)
            if end == NO_PROOF:
                return NO_PROOF
    return end


def follow_answers(position, q, k, row, start):
    end = start
    for place in range(choice_count(position)):
        clash = clash_at(position, place)
        ways = block_ways(clash)
        if end >= len(row) or not 0 <= row[end] < len(ways):
            return NO_PROOF
        after = strike(clash, ways[row[end]])
        if after is None:
            return NO_PROOF
        end = follow(after, q, k - 1, row, end + 1)
        if end == NO_PROOF:
            return NO_PROOF
    return end
