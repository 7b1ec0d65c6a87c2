"""What the tests share: calls as lists, answers taken apart, and a slow model written straight from the document."""

import copy
import itertools
import random

from smallduels.duel import answers

SOAR, REACH, DREAD, VENOM, CRUSH = range(5)
MOST = 1000000000


def life(p, n):
    return [0, p, n]


def being(p, power, body, *keys):
    return [1, p, power, body, len(keys), *keys]


def remove(n):
    return [2, n]


def bolt(p, n):
    return [3, p, n]


def mover(p):
    return [4, p]


def win(q, k):
    return [5, q, k]


def hold(q, k):
    return [6, q, k]


def proof(q, k):
    return [7, q, k]


def check(q, k, *row):
    return [8, q, k, len(row), *row]


def least(q, k):
    return [9, q, k]


def ways():
    return [10]


def choice(i):
    return [11, i]


def blocks(i):
    return [12, i]


def block(i, j):
    return [13, i, j]


def play(i, j):
    return [14, i, j]


def undo():
    return [15]


def state():
    return [16]


def crowd(first, second):
    """The calls for beings and bolts without power to speak of: (beings, bolts) of each side."""
    calls = [life(0, MOST), life(1, MOST)]
    for p, told in enumerate((first, second)):
        calls += [being(p, 0, 1)] * told[0] + [bolt(p, 1)] * told[1]
    return calls


def run(*calls):
    """The answers of the calls, one list for each."""
    line = []
    for call in calls:
        line.extend(call)
    return split(answers(line))


def split(given):
    """What is given back, taken apart by its counts."""
    rows = []
    at = 0
    while at < len(given):
        rows.append(given[at + 1:at + 1 + given[at]])
        at += 1 + given[at]
    assert at == len(given)
    return rows


def last(*calls):
    """The answer of the last call."""
    return run(*calls)[-1]


# The model. A position is a dict: "mover", and "sides" with "life", "beings" and "bolts";
# a being is a dict with "number", "power", "body", "keys" and "bent".

def side(life_points, beings=(), bolts=()):
    """A side of the model; its beings are told as (power, body, *keys)."""
    made = [{"number": 0, "power": b[0], "body": b[1], "keys": set(b[2:]), "bent": False} for b in beings]
    return {"life": life_points, "beings": made, "bolts": list(bolts)}


def position(first, second, to_move=0):
    """Its beings are numbered as by the calls of calls_for."""
    for number, b in enumerate(first["beings"] + second["beings"], start=1):
        b["number"] = number
    return {"mover": to_move, "sides": [first, second]}


def calls_for(pos):
    """The calls that bring a position of straight beings about."""
    calls = []
    for p, s in enumerate(pos["sides"]):
        calls.append(life(p, s["life"]))
        calls.extend(being(p, b["power"], b["body"], *sorted(b["keys"])) for b in s["beings"])
        calls.extend(bolt(p, n) for n in s["bolts"])
    calls.append(mover(pos["mover"]))
    return calls


def model_ways(pos, k):
    product = 1
    for turn in range(k):
        m = pos["sides"][(pos["mover"] + turn) % 2]
        o = pos["sides"][(pos["mover"] + turn + 1) % 2]
        a, b, c = len(m["beings"]), len(m["bolts"]), len(o["beings"])
        product *= (c + 2) ** b * 2 ** a * (a + 1) ** c
    return product


def model_choices(pos):
    """Each as the values of the bolts, then 0 or 1 for each being."""
    m, o = pos["sides"][pos["mover"]], pos["sides"][1 - pos["mover"]]
    bolts = [range(len(o["beings"]) + 2)] * len(m["bolts"])
    return list(itertools.product(*bolts, *[range(2)] * len(m["beings"])))


def bolt_damage(pos, choice):
    """By place among the other side's beings, with the other side itself at -1."""
    damage = {place: 0 for place in range(-1, 4)}
    for aim, n in zip(choice, pos["sides"][pos["mover"]]["bolts"]):
        if aim > 0:
            damage[aim - 2] += n
    return damage


def attackers_of(pos, choice):
    m = pos["sides"][pos["mover"]]
    return [i for i in range(len(m["beings"])) if choice[len(m["bolts"]) + i]]


def model_blocks(pos, choice):
    """Each way as a dict from the place of a being that's left to 0 or its attacker's place from 1."""
    m, o = pos["sides"][pos["mover"]], pos["sides"][1 - pos["mover"]]
    damage = bolt_damage(pos, choice)
    left = [j for j, b in enumerate(o["beings"]) if damage[j] < b["body"]]
    if o["life"] <= damage[-1]:
        return [{j: 0 for j in left}]
    attackers = [m["beings"][i] for i in attackers_of(pos, choice)]
    every = itertools.product(range(len(attackers) + 1), repeat=len(left))
    return [way for way in (dict(zip(left, row)) for row in every) if block_is_allowed(o, attackers, way)]


def block_is_allowed(o, attackers, way):
    for j, value in way.items():
        if value and o["beings"][j]["bent"]:
            return False
        if value and SOAR in attackers[value - 1]["keys"] and not {SOAR, REACH} & o["beings"][j]["keys"]:
            return False
    counts = [list(way.values()).count(i + 1) for i in range(len(attackers))]
    return not any(DREAD in a["keys"] and n == 1 for a, n in zip(attackers, counts))


def model_outcome(pos, choice, way):
    """None where the mover has won, else the position that comes of it."""
    m, o = pos["sides"][pos["mover"]], pos["sides"][1 - pos["mover"]]
    damage = bolt_damage(pos, choice)
    by_blows = {}
    bitten = set()
    to_attacker = {}
    for value, i in enumerate(attackers_of(pos, choice), start=1):
        attacker = m["beings"][i]
        blockers = [j for j in sorted(way) if way[j] == value]
        rest = attacker["power"]
        for j in blockers:
            enough = o["beings"][j]["body"] - damage[j]
            if VENOM in attacker["keys"] and enough > 1:
                enough = 1
            by_blows[j] = enough if enough < rest else rest
            rest -= by_blows[j]
        if not blockers or CRUSH in attacker["keys"]:
            damage[-1] += rest
        else:
            by_blows[blockers[-1]] += rest
        if VENOM in attacker["keys"]:
            bitten.update(("other", j) for j in blockers if by_blows[j] >= 1)
        to_attacker[i] = sum(o["beings"][j]["power"] for j in blockers)
        if any(VENOM in o["beings"][j]["keys"] and o["beings"][j]["power"] >= 1 for j in blockers):
            bitten.add(("mover", i))
    if o["life"] <= damage[-1]:
        return None
    movers = [dict(b, bent=i in to_attacker) for i, b in enumerate(m["beings"])
              if to_attacker.get(i, 0) < b["body"] and ("mover", i) not in bitten]
    others = [dict(b, bent=False) for j, b in enumerate(o["beings"])
              if damage[j] + by_blows.get(j, 0) < b["body"] and ("other", j) not in bitten]
    sides = [None, None]
    kept = [n for n, aim in zip(m["bolts"], choice) if aim == 0]
    sides[pos["mover"]] = {"life": m["life"], "beings": movers, "bolts": kept}
    sides[1 - pos["mover"]] = {"life": o["life"] - damage[-1], "beings": others, "bolts": o["bolts"]}
    return {"mover": 1 - pos["mover"], "sides": sides}


def model_win(pos, q, k):
    if k == 0:
        return False
    if pos["mover"] == q:
        return any(all(after is None or model_win(after, q, k - 1) for after in outcomes(pos, choice))
                   for choice in model_choices(pos))
    return all(any(after is not None and model_win(after, q, k - 1) for after in outcomes(pos, choice))
               for choice in model_choices(pos))


def outcomes(pos, choice):
    return [model_outcome(pos, choice, way) for way in model_blocks(pos, choice)]


def model_hold(pos, q, k):
    if k == 0:
        return True
    if pos["mover"] == q:
        return all(any(after is not None and model_hold(after, q, k - 1) for after in outcomes(pos, choice))
                   for choice in model_choices(pos))
    return any(all(after is None or model_hold(after, q, k - 1) for after in outcomes(pos, choice))
               for choice in model_choices(pos))


def model_proof(pos, q, k):
    """The proof that's told; there must be one."""
    if pos["mover"] == q:
        for place, choice in enumerate(model_choices(pos)):
            if all(after is None or model_win(after, q, k - 1) for after in outcomes(pos, choice)):
                rests = [model_proof(after, q, k - 1) for after in outcomes(pos, choice) if after is not None]
                return [place] + sum(rests, [])
    row = []
    for choice in model_choices(pos):
        for place, after in enumerate(outcomes(pos, choice)):
            if after is not None and model_win(after, q, k - 1):
                row += [place] + model_proof(after, q, k - 1)
                break
    return row


def model_accepts(pos, q, k, row):
    rest = list(row)
    try:
        return model_takes(pos, q, k, rest) and rest == []
    except IndexError:
        return False


def model_takes(pos, q, k, rest):
    """Takes a proof off the beginning of rest; False where it's none, IndexError where it ends too early."""
    if k == 0:
        return False
    if pos["mover"] == q:
        place = rest.pop(0)
        if not 0 <= place < len(model_choices(pos)):
            return False
        return all(after is None or model_takes(after, q, k - 1, rest)
                   for after in outcomes(pos, model_choices(pos)[place]))
    for choice in model_choices(pos):
        place = rest.pop(0)
        afters = outcomes(pos, choice)
        if not 0 <= place < len(afters) or afters[place] is None:
            return False
        if not model_takes(afters[place], q, k - 1, rest):
            return False
    return True


def random_side(rng, most_beings, most_bolts):
    beings = [(rng.randint(0, 3), rng.randint(1, 3), *[key for key in range(5) if rng.random() < 0.25])
              for number in range(rng.randint(0, most_beings))]
    bolts = [rng.randint(1, 3) for number in range(rng.randint(0, most_bolts))]
    return side(rng.randint(1, 5), beings, bolts)


def random_positions(seed, count, most_beings=2, most_bolts=1):
    rng = random.Random(seed)
    return [position(random_side(rng, most_beings, most_bolts), random_side(rng, most_beings, most_bolts),
                     rng.randint(0, 1)) for number in range(count)]


def random_played(seed, count, most_beings=2, most_bolts=1):
    """Pairs of calls, the last of them play, and the position that came of them; some of its beings are bent."""
    rng = random.Random(seed)
    made = []
    while len(made) < count:
        pos = position(random_side(rng, most_beings, most_bolts), random_side(rng, most_beings, most_bolts),
                       rng.randint(0, 1))
        calls = calls_for(pos)
        for turn in range(rng.randint(1, 2)):
            i = rng.randrange(len(model_choices(pos)))
            j = rng.randrange(len(model_blocks(pos, model_choices(pos)[i])))
            after = model_outcome(pos, model_choices(pos)[i], model_blocks(pos, model_choices(pos)[i])[j])
            if after is not None and model_ways(pos, 1) <= 50000:
                calls.append(play(i, j))
                pos = after
        if any(b["bent"] for s in pos["sides"] for b in s["beings"]):
            made.append((calls, pos))
    return made


class ModelDuel:
    """The model of a line: answer takes one call after another."""

    names = ("life", "being", "remove", "bolt", "mover", "win", "hold", "proof", "check", "least",
             "ways", "choice", "blocks", "block", "play", "undo", "state")

    def __init__(self):
        self.pos = position(side(20), side(20))
        self.made = 0
        self.winner = None
        self.before = []

    def answer(self, call):
        number = call[0]
        if self.is_outside(call):
            return [-1]
        if number <= 14 and self.winner is not None:
            return [-2]
        if 5 <= number <= 14 and model_ways(self.pos, call[2] if number <= 9 else 1) > 50000:
            return [-3]
        if number <= 4:
            return self.edit(call)
        return getattr(self, self.names[number])(*call[1:])

    @staticmethod
    def is_outside(call):
        number = call[0]
        if number in (0, 1, 3, 4, 5, 6, 7, 8, 9) and call[1] not in (0, 1):
            return True
        if number in (0, 3):
            return call[2] < 1
        if number == 1:
            return call[2] < 0 or call[3] < 1 or any(key not in range(5) for key in call[5:])
        return 5 <= number <= 9 and call[2] not in range(1, 7)

    def edit(self, call):
        before = self.pos
        self.pos = copy.deepcopy(before)
        given = getattr(self, self.names[call[0]])(*call[1:])
        if given[0] == 0:
            self.before = []
        else:
            self.pos = before
        return given

    def life(self, p, n):
        self.pos["sides"][p]["life"] = n
        return [0]

    def being(self, p, power, body, count, *keys):
        beings = self.pos["sides"][p]["beings"]
        if len(beings) == 4:
            return [-4]
        self.made += 1
        beings.append({"number": self.made, "power": power, "body": body, "keys": set(keys), "bent": False})
        return [0, self.made]

    def remove(self, n):
        for s in self.pos["sides"]:
            for b in s["beings"]:
                if b["number"] == n:
                    s["beings"].remove(b)
                    return [0]
        return [-5]

    def bolt(self, p, n):
        if len(self.pos["sides"][p]["bolts"]) == 3:
            return [-4]
        self.pos["sides"][p]["bolts"].append(n)
        return [0]

    def mover(self, p):
        self.pos["mover"] = p
        for b in self.pos["sides"][p]["beings"]:
            b["bent"] = False
        return [0]

    def win(self, q, k):
        return [int(model_win(self.pos, q, k))]

    def hold(self, q, k):
        return [int(model_hold(self.pos, q, k))]

    def proof(self, q, k):
        return [1] + model_proof(self.pos, q, k) if model_win(self.pos, q, k) else [0]

    def check(self, q, k, count, *row):
        return [int(model_accepts(self.pos, q, k, row))]

    def least(self, q, k):
        return [min([n for n in range(1, k + 1) if model_win(self.pos, q, n)], default=0)]

    def ways(self):
        every = model_choices(self.pos)
        return [0, len(every), sum(len(model_blocks(self.pos, one)) for one in every)]

    def choice(self, i):
        if i not in range(len(model_choices(self.pos))):
            return [-5]
        m, o = self.pos["sides"][self.pos["mover"]], self.pos["sides"][1 - self.pos["mover"]]
        chosen = model_choices(self.pos)[i]
        told = [0, len(m["bolts"])]
        for value in chosen[:len(m["bolts"])]:
            told.append(value if value < 2 else o["beings"][value - 2]["number"] + 1)
        return told + [m["beings"][place]["number"] for place in attackers_of(self.pos, chosen)]

    def blocks(self, i):
        if i not in range(len(model_choices(self.pos))):
            return [-5]
        return [0, len(model_blocks(self.pos, model_choices(self.pos)[i]))]

    def way(self, i, j):
        """The choice and the way to block, or a refusal."""
        if i not in range(len(model_choices(self.pos))):
            return [-5]
        chosen = model_choices(self.pos)[i]
        if j not in range(len(model_blocks(self.pos, chosen))):
            return [-6]
        return chosen, model_blocks(self.pos, chosen)[j]

    def block(self, i, j):
        found = self.way(i, j)
        if len(found) == 1:
            return found
        m, o = self.pos["sides"][self.pos["mover"]], self.pos["sides"][1 - self.pos["mover"]]
        attackers = [m["beings"][place]["number"] for place in attackers_of(self.pos, found[0])]
        told = [0]
        for place, value in sorted(found[1].items()):
            told += [o["beings"][place]["number"], attackers[value - 1]] if value else []
        return told

    def play(self, i, j):
        found = self.way(i, j)
        if len(found) == 1:
            return found
        self.before.append(self.pos)
        after = model_outcome(self.pos, *found)
        if after is None:
            self.winner = self.pos["mover"]
            return [0, 1]
        self.pos = after
        return [0, 0]

    def undo(self):
        if not self.before:
            return [-7]
        self.pos = self.before.pop()
        self.winner = None
        return [0]

    def state(self):
        told = [0, 0 if self.winner is None else self.winner + 1, self.pos["mover"]]
        for s in self.pos["sides"]:
            told += [s["life"], len(s["beings"])]
            for b in s["beings"]:
                told += [b["number"], b["power"], b["body"], sum(2 ** key for key in b["keys"]), int(b["bent"])]
            told += [len(s["bolts"]), *s["bolts"]]
        return told
