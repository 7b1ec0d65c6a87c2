"""Whole lines of all calls, picked at random, beside the slow model of a line."""

import random
import unittest

from helper import (
    ModelDuel, being, block, blocks, bolt, check, choice, crowd, hold, least, life, model_blocks, model_choices,
    model_ways, mover, play, proof, remove, run, state, undo, ways, win)

# Above so many ways the model is too slow, and nothing is asked up to those that are refused.
MOST_MODEL_WAYS = 400


def pick_edit(rng):
    p = rng.choice((0, 0, 0, 1, 1, 1, 2, -1)) if rng.random() < 0.2 else rng.randint(0, 1)
    kind = rng.randrange(5)
    if kind == 0:
        return life(p, rng.randint(0, 6))
    if kind == 1:
        keys = [rng.randint(0, 4) for number in range(rng.choice((0, 0, 1, 2)))]
        keys += [rng.choice((5, -1))] if rng.random() < 0.05 else []
        power = rng.randint(0, 3) if rng.random() < 0.95 else -1
        return being(p, power, rng.randint(0 if rng.random() < 0.1 else 1, 3), *keys)
    if kind == 2:
        return remove(rng.randint(-1, 12))
    if kind == 3:
        return bolt(p, rng.randint(0 if rng.random() < 0.1 else 1, 3))
    return mover(p)


def pick_search(rng, pos):
    asked = [(rng.choice((-1, 2)), rng.randint(1, 6)), (rng.randint(0, 1), rng.choice((0, 7)))]
    for k in range(1, 7):
        if model_ways(pos, k) <= MOST_MODEL_WAYS or model_ways(pos, k) > 50000:
            asked += [(0, k), (1, k)]
    q, k = rng.choice(asked)
    call = rng.choice((win, hold, proof, check, least))
    if call is check:
        return check(q, k, *[rng.randint(-1 if rng.random() < 0.1 else 0, 2) for number in range(rng.randint(0, 4))])
    return call(q, k)


def pick_play(rng, pos):
    choices = model_choices(pos)
    i = rng.randrange(len(choices)) if rng.random() < 0.9 else rng.choice((-1, len(choices)))
    count = len(model_blocks(pos, choices[i])) if 0 <= i < len(choices) else 1
    j = rng.randrange(count) if rng.random() < 0.9 else rng.choice((-1, count))
    return rng.choice((play(i, j), play(i, j), play(i, j), block(i, j), blocks(i), choice(i), ways()))


def pick(rng, pos):
    roll = rng.random()
    if roll < 0.3:
        return pick_edit(rng)
    if roll < 0.45:
        return pick_search(rng, pos)
    if roll < 0.8:
        return pick_play(rng, pos)
    return undo() if roll < 0.9 else state()


class WholeLines(unittest.TestCase):
    def test_random_lines(self):
        seen = {}
        for seed in range(600):
            rng = random.Random(1000 + seed)
            model = ModelDuel()
            calls = [life(0, rng.randint(1, 6)), life(1, rng.randint(1, 6))]
            wanted = [model.answer(call) for call in calls]
            for number in range(rng.randint(1, 120)):
                calls.append(pick(rng, model.pos))
                wanted.append(model.answer(calls[-1]))
                seen[(calls[-1][0], min(wanted[-1][0], 0))] = True
            given = run(*calls)
            for place, call in enumerate(calls):
                self.assertEqual(given[place], wanted[place], (calls[:place + 1]))
        # Every refusal that a call names has come about, but for too many ways of one half-turn, which are rare here.
        named = {0: [-1, -2], 1: [-1, -2, -4], 2: [-2, -5], 3: [-1, -2, -4], 4: [-1, -2], 10: [-2], 11: [-2, -5],
                 12: [-2, -5], 13: [-2, -5, -6], 14: [-2, -5, -6], 15: [-7], 16: []}
        for call in range(17):
            for refusal in [0] + named.get(call, [-1, -2, -3]):
                self.assertIn((call, refusal), seen)

    def test_every_choice_and_way_of_large_positions(self):
        for seed, counts in enumerate((((4, 1), (3, 0)), ((3, 2), (2, 1)), ((2, 3), (2, 0)), ((4, 0), (4, 3)))):
            rng = random.Random(seed)
            model = ModelDuel()
            start = [life(0, 9), life(1, 3)]
            for p, (beings, bolts) in enumerate(counts):
                for number in range(beings):
                    keys = [key for key in range(5) if rng.random() < 0.3]
                    start.append(being(p, rng.randint(0, 3), rng.randint(1, 3), *keys))
                start += [bolt(p, rng.randint(1, 3)) for number in range(bolts)]
            for call in start:
                model.answer(call)
            choices = range(len(model_choices(model.pos)))
            asked = [ways()] + [call(i) for i in choices for call in (choice, blocks)]
            for i in choices:
                count = len(model_blocks(model.pos, model_choices(model.pos)[i]))
                for j in sorted({0, count - 1, count, rng.randrange(count)}):
                    asked += [block(i, j), play(i, j), state(), undo()]
            self.assertEqual(run(*start, *asked)[len(start):], [model.answer(call) for call in asked])

    def test_too_many_ways_beside_the_model(self):
        for counts in (((4, 3), (3, 0)), ((4, 2), (4, 0)), ((4, 2), (3, 0)), ((3, 3), (2, 0)), ((2, 3), (4, 0))):
            model = ModelDuel()
            calls = crowd(*counts) + [ways(), choice(0), choice(-1), blocks(0), block(0, 0), block(0, 1), play(0, 0),
                                      state()]
            self.assertEqual(run(*calls), [model.answer(call) for call in calls])


if __name__ == "__main__":
    unittest.main()
