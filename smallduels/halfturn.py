"""A half-turn: the mover's choices, the bolts, the ways to block and the blows."""

from smallduels.position import (
    CRUSH,
    DREAD,
    REACH,
    SOAR,
    VENOM,
    Position,
    Side,
    has_mark,
    mover_of,
    other_of,
    turned,
)

KEPT = 0
AT_SIDE = 1
AT_FIRST_BEING = 2


# aims has a number for each of the mover's bolts, attacks 0 or 1 for each of its beings.
class Choice:
    def __init__(self, aims, attacks):
        self.aims = aims
        self.attacks = attacks


# A half-turn between its bolts and its blows. mover and other are the sides as they were ahead of it;
# life, left and burns are the other side's life, its beings that are left and the damage by bolts of each.
class Clash:
    def __init__(self, position, choice):
        self.mover_number = position.mover
        self.mover = mover_of(position)
        self.other = other_of(position)
        self.attacks = choice.attacks
        self.attackers = [being for being, attack in zip(self.mover.beings, choice.attacks) if attack == 1]
        self.kept = tuple([bolt for bolt, aim in zip(self.mover.bolts, choice.aims) if aim == KEPT])
        self.life = self.other.life
        self.left = []
        self.burns = []


# Without ** since its exponent would not be a written one.
def power_of(base, exponent):
    product = 1
    for factor in range(exponent):
        product *= base
    return product


def choices_against(mover, other):
    return power_of(len(other.beings) + 2, len(mover.bolts)) * power_of(2, len(mover.beings))


def choice_count(position):
    return choices_against(mover_of(position), other_of(position))


# The last digits of a number in that base, the highest of them first.
def digits(number, base, length):
    row = []
    rest = number
    for place in range(length):
        row.append(rest % base)
        rest = rest // base
    row.reverse()
    return tuple(row)


# The first place of a choice changes slowest, so a choice's place is a number whose digits are the choice.
def choice_at(position, place):
    mover = mover_of(position)
    subsets = power_of(2, len(mover.beings))
    aims = digits(place // subsets, len(other_of(position).beings) + 2, len(mover.bolts))
    return Choice(aims, digits(place, 2, len(mover.beings)))


def throw_bolts(position, choice):
    clash = Clash(position, choice)
    burns = [0 for being in clash.other.beings]
    for bolt, aim in zip(clash.mover.bolts, choice.aims):
        if aim == AT_SIDE:
            clash.life -= bolt
        elif aim >= AT_FIRST_BEING:
            burns[aim - AT_FIRST_BEING] += bolt
    for being, burn in zip(clash.other.beings, burns):
        if burn < being.body:
            clash.left.append(being)
            clash.burns.append(burn)
    return clash


def clash_at(position, place):
    return throw_bolts(position, choice_at(position, place))


# As far as these two alone decide it; dread_allows looks at all blockers together.
def may_block(being, attacker):
    if being.bent:
        return False
    return not has_mark(attacker, SOAR) or has_mark(being, SOAR) or has_mark(being, REACH)


def dread_allows(attackers, way):
    for number, attacker in enumerate(attackers, start=1):
        if has_mark(attacker, DREAD) and way.count(number) == 1:
            return False
    return True


# All ways in order; a way has for each being that is left 0, or the place from 1 of the attacker that it blocks.
def block_ways(clash):
    if clash.life <= 0:
        return [tuple([0 for being in clash.left])]
    ways = [()]
    for being in clash.left:
        values = [0]
        for number, attacker in enumerate(clash.attackers, start=1):
            if may_block(being, attacker):
                values.append(number)
        longer = []
        for way in ways:
            longer.extend([way + (value,) for value in values])
        ways = longer
    return [way for way in ways if dread_allows(clash.attackers, way)]


# What the attacker deals to each of its blockers (places in clash.left), and last to the other side's life.
def shares(clash, attacker, blockers):
    row = []
    rest = attacker.power
    for place in blockers:
        enough = clash.left[place].body - clash.burns[place]
        if has_mark(attacker, VENOM):
            enough = min(enough, 1)
        part = min(enough, rest)
        row.append(part)
        rest -= part
    if len(blockers) > 0 and not has_mark(attacker, CRUSH):
        row[-1] += rest
        rest = 0
    row.append(rest)
    return row


# The position that comes of the blows, or None if the mover has won, be it by its bolts already.
def strike(clash, way):
    life = clash.life
    wounds = [0 for being in clash.left]
    for number, attacker in enumerate(clash.attackers, start=1):
        blockers = [place for place, value in enumerate(way) if value == number]
        dealt = shares(clash, attacker, blockers)
        life -= dealt[-1]
        for place, part in zip(blockers, dealt):
            wounds[place] = part
    if life <= 0:
        return None
    mover = Side(clash.mover.life, mover_beings_after(clash, way), clash.kept)
    other = Side(life, other_beings_after(clash, way, wounds), clash.other.bolts)
    if clash.mover_number == 0:
        return Position(1, (mover, other))
    return Position(0, (other, mover))


def mover_beings_after(clash, way):
    standing = []
    number = 0
    for being, attack in zip(clash.mover.beings, clash.attacks):
        number += attack
        if attack == 0:
            standing.append(turned(being, False))
        elif outlives(being, [blocker for blocker, value in zip(clash.left, way) if value == number]):
            standing.append(turned(being, True))
    return tuple(standing)


def outlives(attacker, blockers):
    if any([blocker.power > 0 and has_mark(blocker, VENOM) for blocker in blockers]):
        return False
    return sum([blocker.power for blocker in blockers]) < attacker.body


def other_beings_after(clash, way, wounds):
    standing = []
    for place, being in enumerate(clash.left):
        # Only a being that blocks has a wound, so way tells its attacker here.
        poisoned = wounds[place] > 0 and has_mark(clash.attackers[way[place] - 1], VENOM)
        if not poisoned and clash.burns[place] + wounds[place] < being.body:
            standing.append(turned(being, False))
    return tuple(standing)
