"""The calls 5 to 9, which ask for forced wins. Their numbers have been found to be in their ranges."""

from smallduels.forced import is_proof


def search_win(duel, q, k, row):
    return [0 if duel.proof_for(q, k) is None else 1]


# Each step of holding out is the denial of the same step of forcing a win, so one search tells both.
def search_hold(duel, q, k, row):
    return [1 if duel.proof_for(q, k) is None else 0]


def search_proof(duel, q, k, row):
    found = duel.proof_for(q, k)
    if found is None:
        return [0]
    return [1] + found


def search_check(duel, q, k, row):
    return [1 if is_proof(duel.position, q, k, row) else 0]


def search_least(duel, q, k, row):
    for fewer in range(1, k + 1):
        if duel.proof_for(q, fewer) is not None:
            return [fewer]
    return [0]


SEARCHES = {5: search_win, 6: search_hold, 7: search_proof, 8: search_check, 9: search_least}


def answer_search(duel, number, numbers, row):
    search = SEARCHES[number]
    return search(duel, numbers[0], numbers[1], row)
