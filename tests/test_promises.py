"""The promises over many small positions, set up and played, and the answers beside those of the slow model."""

import copy
import itertools
import random
import unittest

from helper import (
    being, bolt, calls_for, check, hold, least, life, model_accepts, model_hold, model_proof, model_ways, model_win,
    proof, random_played, random_positions, run, split, state, win)
from smallduels.duel import answers

FEW_WAYS = 1500


def questions(pos, most_ways=50000):
    """All q and k of which there are not too many ways."""
    return [(q, k) for q in (0, 1) for k in range(1, 7) if model_ways(pos, k) <= most_ways]


def ask(start, *calls):
    """The answers of the calls behind those at the start."""
    return run(*start, *calls)[len(start):]


def set_up(seed, count, most_beings=2, most_bolts=1):
    """Pairs of calls and the position that they set up."""
    return [(calls_for(pos), pos) for pos in random_positions(seed, count, most_beings, most_bolts)]


class Starts(unittest.TestCase):
    def test_played_positions_are_those_of_the_model(self):
        moved = {0: 0, 1: 0}
        for start, pos in random_played(30, 100) + random_played(31, 100, 3, 2):
            told = ask(start, state())[0]
            bent = sum(b["bent"] for s in pos["sides"] for b in s["beings"])
            self.assertEqual(told[:4], [0, 0, pos["mover"], pos["sides"][0]["life"]])
            self.assertEqual(bent_of(told), bent)
            self.assertGreater(bent, 0)
            moved[pos["mover"]] += 1
        self.assertGreater(min(moved.values()), 50)


def bent_of(told):
    """How many beings are bent, in what state tells."""
    bent = 0
    at = 3
    for p in (0, 1):
        beings = told[at + 1]
        bent += sum(told[at + 6 + 5 * number] for number in range(beings))
        at += 2 + 5 * beings
        at += 1 + told[at]
    return bent


class BesideTheModel(unittest.TestCase):
    def setUp(self):
        self.starts = set_up(1, 300) + set_up(2, 100, 3, 2) + random_played(21, 150) + random_played(22, 80, 3, 2)

    def test_win_hold_proof_and_least(self):
        seen = {0: 0, 1: 0}
        for start, pos in self.starts:
            for q in (0, 1):
                first = 0
                for k in [k for other, k in questions(pos, FEW_WAYS) if other == q]:
                    wanted = int(model_win(pos, q, k))
                    first = k if wanted and not first else first
                    told = [1] + model_proof(pos, q, k) if wanted else [0]
                    self.assertEqual(ask(start, win(q, k), hold(q, k), proof(q, k), least(q, k)),
                                     [[wanted], [int(model_hold(pos, q, k))], told, [first]], (pos, q, k))
                    self.assertEqual(ask(start, least(q, k)), [[first]])
                    seen[wanted] += 1
        self.assertGreater(min(seen.values()), 400)

    def test_check_of_rows_that_are_changed(self):
        rng = random.Random(3)
        seen = {0: 0, 1: 0}
        for start, pos in self.starts:
            for q, k in questions(pos, FEW_WAYS):
                told = ask(start, proof(q, k))[0]
                row = told[1:] if told[0] else [rng.randint(0, 3) for number in range(rng.randint(0, 6))]
                for other in changed(rng, row):
                    wanted = int(model_accepts(pos, q, k, other))
                    self.assertEqual(ask(start, check(q, k, *other)), [[wanted]], (pos, q, k, other))
                    seen[wanted] += 1
        self.assertGreater(min(seen.values()), 100)


def changed(rng, row):
    """Rows that are like the row: a number changed, cut short, longer, below 0."""
    rows = [row + [0], row + [-1], row[:-1], row[1:], [0] + row]
    for number in range(4):
        if row:
            place = rng.randrange(len(row))
            for value in (row[place] + 1, row[place] - 1, rng.randint(0, 8), -1, 10 ** 9, -10 ** 9):
                rows.append(row[:place] + [value] + row[place + 1:])
    return rows


class Promise1(unittest.TestCase):
    def test_just_one_of_win_and_hold(self):
        for start, pos in set_up(4, 300) + set_up(5, 100, 4, 3) + random_played(23, 200) + random_played(24, 100, 4, 3):
            for q, k in questions(pos):
                given = ask(start, win(q, k), hold(q, k))
                self.assertIn(given, ([[0], [1]], [[1], [0]]), (pos, q, k))
                self.assertEqual(ask(start, hold(q, k), win(q, k)), given[::-1])


class Promise2(unittest.TestCase):
    def test_a_proof_is_told_just_where_a_win_can_be_forced_and_is_accepted(self):
        for start, pos in set_up(6, 300) + set_up(7, 100, 4, 3) + random_played(25, 200) + random_played(26, 100, 4, 3):
            for q, k in questions(pos):
                won, told = ask(start, win(q, k), proof(q, k))
                self.assertEqual(told[0], won[0])
                if won == [1]:
                    self.assertGreater(len(told), 1)
                    self.assertEqual(ask(start, check(q, k, *told[1:])), [[1]], (pos, q, k))
                else:
                    self.assertEqual(told, [0])

    def test_it_is_a_proof_to_its_last_number(self):
        for start, pos in set_up(8, 150) + random_played(27, 100):
            for q, k in questions(pos):
                told = ask(start, proof(q, k))[0]
                if told[0] == 1:
                    row = told[1:]
                    self.assertEqual(ask(start, check(q, k, *row[:-1]), check(q, k, *row, 0), check(q, k, *row, -1),
                                         check(q, k)), [[0]] * 4)

    def test_whatever_is_accepted_proves_a_forced_win(self):
        rng = random.Random(9)
        accepted = 0
        for start, pos in set_up(10, 150, 2, 2) + random_played(28, 100, 2, 2):
            for q, k in questions(pos):
                rows = [[rng.randint(0, 3) for number in range(rng.choice((1, 1, 2, 3, 4)))] for time in range(8)]
                given = ask(start, win(q, k), *[check(q, k, *row) for row in rows])
                if [1] in given[1:]:
                    self.assertEqual(given[0], [1])
                    accepted += 1
        self.assertGreater(accepted, 50)

    def test_all_short_rows(self):
        rows = [row for length in range(4) for row in itertools.product(range(-1, 3), repeat=length)]
        accepted = 0
        for start, pos in set_up(16, 25, 1, 1) + random_played(17, 15, 1, 1):
            for q, k in questions(pos, 200):
                wanted = [[int(model_accepts(pos, q, k, row))] for row in rows]
                self.assertEqual(ask(start, *[check(q, k, *row) for row in rows]), wanted, (pos, q, k))
                accepted += wanted.count([1])
        self.assertGreater(accepted, 50)

    def test_a_part_that_fails_makes_it_none(self):
        # Where side 0 waits and side 1 too, 1 is no way to block; the second row ends ahead of side 0's attack.
        start = [life(0, 3), being(0, 0, 1), being(1, 3, 3)]
        self.assertEqual(run(*start, check(1, 4, 0, 0, 1), check(1, 4, 0, 1, 0, 1), win(1, 4))[3:], [[0], [0], [1]])

    def test_a_proof_for_one_side_is_none_for_the_other(self):
        start = [life(1, 5), bolt(0, 5)]
        self.assertEqual(run(*start, check(0, 1, 1), check(1, 1, 1), check(1, 2, 1))[2:], [[1], [0], [0]])

    def test_a_long_row(self):
        start = [life(1, 5), bolt(0, 5)]
        for row in ([0] * 30000, [1] * 30000, [10 ** 9] * 30000, [-10 ** 9] * 30000):
            self.assertEqual(run(*start, check(0, 6, *row))[2:], [[0]])

    def test_a_long_proof(self):
        # Three times side 1 has eight choices, so many times is an answer proved.
        start = [being(1, 1, 1), being(1, 1, 1), being(1, 1, 1), bolt(0, 20), [4, 1]]
        told = run(*start, proof(0, 4))[-1]
        self.assertEqual(told[0], 1)
        self.assertGreater(len(told), 100)
        self.assertEqual(run(*start, check(0, 4, *told[1:]))[-1], [1])


class Promise3(unittest.TestCase):
    def test_a_win_within_k_is_one_within_more(self):
        for start, pos in set_up(11, 300) + random_played(29, 200):
            asked = questions(pos)
            given = dict(zip(asked, ask(start, *[win(q, k) for q, k in asked])))
            for q, k in asked:
                if (q, k + 1) in given:
                    self.assertLessEqual(given[(q, k)], given[(q, k + 1)], (pos, q, k))

    def test_more_never_hurts_ones_side(self):
        self.helped = 0
        for start, pos in set_up(12, 150):
            self.look_at_improvements(start, pos)
        self.assertGreater(self.helped, 60)

    def test_more_never_hurts_ones_side_behind_half_turns(self):
        self.helped = 0
        for start, pos in random_played(14, 150):
            self.look_at_improvements(start, pos)
        self.assertGreater(self.helped, 60)

    def look_at_improvements(self, start, pos):
        for p in (0, 1):
            for call, better in improvements(pos, p):
                asked = questions(better)
                before = ask(start, *[win(q, k) for q, k in asked])
                after = ask(start + [call], *[win(q, k) for q, k in asked])
                for (q, k), old, new in zip(asked, before, after):
                    less, more = (old, new) if q == p else (new, old)
                    self.assertLessEqual(less, more, (pos, call, q, k))
                    self.helped += less != more


def improvements(pos, p):
    """Pairs of a call and the position with what it brings: more life, one more being or one more bolt on side p."""
    made = []
    for points in (1, 10):
        better = copy.deepcopy(pos)
        better["sides"][p]["life"] += points
        made.append((life(p, better["sides"][p]["life"]), better))
    for power, body, keys in ((0, 1, ()), (2, 2, ()), (1, 1, (3,)), (2, 1, (0, 4))):
        better = copy.deepcopy(pos)
        better["sides"][p]["beings"].append({"power": power, "body": body, "keys": set(keys), "bent": False})
        made.append((being(p, power, body, *keys), better))
    for number in (1, 3):
        better = copy.deepcopy(pos)
        better["sides"][p]["bolts"].append(number)
        made.append((bolt(p, number), better))
    return made


class ManyInOneLine(unittest.TestCase):
    def test_the_same_as_one_by_one(self):
        for start, pos in set_up(13, 40) + random_played(15, 40):
            asked = [call(q, k) for q, k in questions(pos, FEW_WAYS) for call in (win, hold, proof, least, win)]
            line = sum(start + asked, [])
            self.assertEqual(split(answers(line))[-len(asked):], [ask(start, call)[0] for call in asked])


if __name__ == "__main__":
    unittest.main()
