"""Positions: two sides with life, beings and bolts, one of them to move.

Nothing here is changed once it is made, since a search goes on from one position in many ways.
"""

# A being's marks are the sum of 2^k over its keys.
SOAR = 1
REACH = 2
DREAD = 4
VENOM = 8
CRUSH = 16

FIRST_LIFE = 20


class Being:
    def __init__(self, number, power, body, marks, bent):
        self.number = number
        self.power = power
        self.body = body
        self.marks = marks
        self.bent = bent


# Beings and bolts are tuples, in their order.
class Side:
    def __init__(self, life, beings, bolts):
        self.life = life
        self.beings = beings
        self.bolts = bolts


class Position:
    def __init__(self, mover, sides):
        self.mover = mover
        self.sides = sides


def first_position():
    return Position(0, (Side(FIRST_LIFE, (), ()), Side(FIRST_LIFE, (), ())))


def mover_of(position):
    return position.sides[position.mover]


def other_of(position):
    return position.sides[1 - position.mover]


def has_mark(being, mark):
    return being.marks & mark != 0


def turned(being, bent):
    if being.bent == bent:
        return being
    return Being(being.number, being.power, being.body, being.marks, bent)


def with_side(position, p, side):
    if p == 0:
        return Position(position.mover, (side, position.sides[1]))
    return Position(position.mover, (position.sides[0], side))
