"""What the tests share: calls as lists, answers taken apart, and a slow model written straight from the document."""

import itertools
import random

from smallduels.duel import answers

SOAR, REACH, DREAD, VENOM, CRUSH = range(5)
MOST = 1000000000


def life(p, n):
    return [0, p, n]


def being(p, power, body, *keys):
    return [1, p, power, body, len(keys), *keys]


def remove(n):
    return [2, n]


def bolt(p, n):
    return [3, p, n]


def mover(p):
    return [4, p]


def win(q, k):
    return [5, q, k]


def hold(q, k):
    return [6, q, k]


def proof(q, k):
    return [7, q, k]


def check(q, k, *row):
    return [8, q, k, len(row), *row]


def run(*calls):
    """The answers of the calls, one list for each."""
    line = []
    for call in calls:
        line.extend(call)
    return split(answers(line))


def split(given):
    """What is given back, taken apart by its counts."""
    rows = []
    at = 0
    while at < len(given):
        rows.append(given[at + 1:at + 1 + given[at]])
        at += 1 + given[at]
    assert at == len(given)
    return rows


def last(*calls):
    """The answer of the last call."""
    return run(*calls)[-1]


# The model. A position is a dict: "mover", and "sides" with "life", "beings" and "bolts";
# a being is a dict with "power", "body", "keys" and "bent".

def side(life_points, beings=(), bolts=()):
    """A side of the model; its beings are told as (power, body, *keys)."""
    made = [{"power": b[0], "body": b[1], "keys": set(b[2:]), "bent": False} for b in beings]
    return {"life": life_points, "beings": made, "bolts": list(bolts)}


def position(first, second, to_move=0):
    return {"mover": to_move, "sides": [first, second]}


def calls_for(pos):
    """The calls that bring a position of straight beings about."""
    calls = []
    for p, s in enumerate(pos["sides"]):
        calls.append(life(p, s["life"]))
        calls.extend(being(p, b["power"], b["body"], *sorted(b["keys"])) for b in s["beings"])
        calls.extend(bolt(p, n) for n in s["bolts"])
    calls.append(mover(pos["mover"]))
    return calls


def ways(pos, k):
    product = 1
    for turn in range(k):
        m = pos["sides"][(pos["mover"] + turn) % 2]
        o = pos["sides"][(pos["mover"] + turn + 1) % 2]
        a, b, c = len(m["beings"]), len(m["bolts"]), len(o["beings"])
        product *= (c + 2) ** b * 2 ** a * (a + 1) ** c
    return product


def model_choices(pos):
    m, o = pos["sides"][pos["mover"]], pos["sides"][1 - pos["mover"]]
    bolts = [range(len(o["beings"]) + 2)] * len(m["bolts"])
    return list(itertools.product(*bolts, *[range(2)] * len(m["beings"])))


def bolt_damage(pos, choice):
    """By place among the other side's beings, with the other side itself at -1."""
    damage = {place: 0 for place in range(-1, 4)}
    for aim, n in zip(choice, pos["sides"][pos["mover"]]["bolts"]):
        if aim > 0:
            damage[aim - 2] += n
    return damage


def attackers_of(pos, choice):
    m = pos["sides"][pos["mover"]]
    return [i for i in range(len(m["beings"])) if choice[len(m["bolts"]) + i]]


def model_blocks(pos, choice):
    """Each way as a dict from the place of a being that's left to 0 or its attacker's place from 1."""
    m, o = pos["sides"][pos["mover"]], pos["sides"][1 - pos["mover"]]
    damage = bolt_damage(pos, choice)
    left = [j for j, b in enumerate(o["beings"]) if damage[j] < b["body"]]
    if o["life"] <= damage[-1]:
        return [{j: 0 for j in left}]
    attackers = [m["beings"][i] for i in attackers_of(pos, choice)]
    every = itertools.product(range(len(attackers) + 1), repeat=len(left))
    return [way for way in (dict(zip(left, row)) for row in every) if block_is_allowed(o, attackers, way)]


def block_is_allowed(o, attackers, way):
    for j, value in way.items():
        if value and o["beings"][j]["bent"]:
            return False
        if value and SOAR in attackers[value - 1]["keys"] and not {SOAR, REACH} & o["beings"][j]["keys"]:
            return False
    counts = [list(way.values()).count(i + 1) for i in range(len(attackers))]
    return not any(DREAD in a["keys"] and n == 1 for a, n in zip(attackers, counts))


def model_outcome(pos, choice, way):
    """None where the mover has won, else the position that comes of it."""
    m, o = pos["sides"][pos["mover"]], pos["sides"][1 - pos["mover"]]
    damage = bolt_damage(pos, choice)
    by_blows = {}
    bitten = set()
    to_attacker = {}
    for value, i in enumerate(attackers_of(pos, choice), start=1):
        attacker = m["beings"][i]
        blockers = [j for j in sorted(way) if way[j] == value]
        rest = attacker["power"]
        for j in blockers:
            enough = o["beings"][j]["body"] - damage[j]
            if VENOM in attacker["keys"] and enough > 1:
                enough = 1
            by_blows[j] = enough if enough < rest else rest
            rest -= by_blows[j]
        if not blockers or CRUSH in attacker["keys"]:
            damage[-1] += rest
        else:
            by_blows[blockers[-1]] += rest
        if VENOM in attacker["keys"]:
            bitten.update(("other", j) for j in blockers if by_blows[j] >= 1)
        to_attacker[i] = sum(o["beings"][j]["power"] for j in blockers)
        if any(VENOM in o["beings"][j]["keys"] and o["beings"][j]["power"] >= 1 for j in blockers):
            bitten.add(("mover", i))
    if o["life"] <= damage[-1]:
        return None
    movers = [dict(b, bent=i in to_attacker) for i, b in enumerate(m["beings"])
              if to_attacker.get(i, 0) < b["body"] and ("mover", i) not in bitten]
    others = [dict(b, bent=False) for j, b in enumerate(o["beings"])
              if damage[j] + by_blows.get(j, 0) < b["body"] and ("other", j) not in bitten]
    sides = [None, None]
    kept = [n for n, aim in zip(m["bolts"], choice) if aim == 0]
    sides[pos["mover"]] = {"life": m["life"], "beings": movers, "bolts": kept}
    sides[1 - pos["mover"]] = {"life": o["life"] - damage[-1], "beings": others, "bolts": o["bolts"]}
    return {"mover": 1 - pos["mover"], "sides": sides}


def model_win(pos, q, k):
    if k == 0:
        return False
    if pos["mover"] == q:
        return any(all(after is None or model_win(after, q, k - 1) for after in outcomes(pos, choice))
                   for choice in model_choices(pos))
    return all(any(after is not None and model_win(after, q, k - 1) for after in outcomes(pos, choice))
               for choice in model_choices(pos))


def outcomes(pos, choice):
    return [model_outcome(pos, choice, way) for way in model_blocks(pos, choice)]


def model_hold(pos, q, k):
    if k == 0:
        return True
    if pos["mover"] == q:
        return all(any(after is not None and model_hold(after, q, k - 1) for after in outcomes(pos, choice))
                   for choice in model_choices(pos))
    return any(all(after is None or model_hold(after, q, k - 1) for after in outcomes(pos, choice))
               for choice in model_choices(pos))


def model_proof(pos, q, k):
    """The proof that's told; there must be one."""
    if pos["mover"] == q:
        for place, choice in enumerate(model_choices(pos)):
            if all(after is None or model_win(after, q, k - 1) for after in outcomes(pos, choice)):
                rests = [model_proof(after, q, k - 1) for after in outcomes(pos, choice) if after is not None]
                return [place] + sum(rests, [])
    row = []
    for choice in model_choices(pos):
        for place, after in enumerate(outcomes(pos, choice)):
            if after is not None and model_win(after, q, k - 1):
                row += [place] + model_proof(after, q, k - 1)
                break
    return row


def model_accepts(pos, q, k, row):
    rest = list(row)
    try:
        return model_takes(pos, q, k, rest) and rest == []
    except IndexError:
        return False


def model_takes(pos, q, k, rest):
    """Takes a proof off the beginning of rest; False where it's none, IndexError where it ends too early."""
    if k == 0:
        return False
    if pos["mover"] == q:
        place = rest.pop(0)
        if not 0 <= place < len(model_choices(pos)):
            return False
        return all(after is None or model_takes(after, q, k - 1, rest)
                   for after in outcomes(pos, model_choices(pos)[place]))
    for choice in model_choices(pos):
        place = rest.pop(0)
        afters = outcomes(pos, choice)
        if not 0 <= place < len(afters) or afters[place] is None:
            return False
        if not model_takes(afters[place], q, k - 1, rest):
            return False
    return True


def random_side(rng, most_beings, most_bolts):
    beings = [(rng.randint(0, 3), rng.randint(1, 3), *[key for key in range(5) if rng.random() < 0.25])
              for number in range(rng.randint(0, most_beings))]
    bolts = [rng.randint(1, 3) for number in range(rng.randint(0, most_bolts))]
    return side(rng.randint(1, 5), beings, bolts)


def random_positions(seed, count, most_beings=2, most_bolts=1):
    rng = random.Random(seed)
    return [position(random_side(rng, most_beings, most_bolts), random_side(rng, most_beings, most_bolts),
                     rng.randint(0, 1)) for number in range(count)]
