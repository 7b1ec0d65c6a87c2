"""A duel as the calls on it leave it: its position, whether it is won, and what can be taken back."""

from smallduels.forced import find_proof
from smallduels.position import first_position


class Duel:
    # The side that has won is always the side to move, since a position stays as it was where it is won.
    def __init__(self):
        self.position = first_position()
        self.won = False
        self.played = []
        self.beings_made = 0
        self.proofs = {}

    # What was found out holds of the position before alone.
    def go_to(self, position):
        self.position = position
        self.proofs = {}

    def set_up(self, position):
        self.go_to(position)
        self.played = []

    # after is None where the mover has won.
    def play(self, after):
        self.played.append(self.position)
        if after is None:
            self.won = True
        else:
            self.go_to(after)

    def take_back(self):
        self.go_to(self.played.pop())
        self.won = False

    # Kept, since win, hold, proof and least are often asked of one position.
    def proof_for(self, q, k):
        if (q, k) not in self.proofs:
            self.proofs[(q, k)] = find_proof(self.position, q, k)
        return self.proofs[(q, k)]
