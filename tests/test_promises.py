"""The promises over many small positions, and the answers beside those of the slow model."""

import copy
import random
import unittest

from helper import (
    being, bolt, calls_for, check, hold, life, model_accepts, model_hold, model_proof, model_win, proof, random_positions,
    run, split, ways, win)
from smallduels.duel import answers

FEW_WAYS = 1500


def questions(pos, most_ways=50000):
    """All q and k of which there are not too many ways."""
    return [(q, k) for q in (0, 1) for k in range(1, 7) if ways(pos, k) <= most_ways]


def ask(pos, *calls):
    """The answers of the calls at the position."""
    start = calls_for(pos)
    return run(*start, *calls)[len(start):]


class BesideTheModel(unittest.TestCase):
    def setUp(self):
        self.positions = random_positions(1, 350) + random_positions(2, 150, 3, 2)

    def test_win_hold_and_proof(self):
        seen = {0: 0, 1: 0}
        for pos in self.positions:
            for q, k in questions(pos, FEW_WAYS):
                wanted = int(model_win(pos, q, k))
                told = [1] + model_proof(pos, q, k) if wanted else [0]
                self.assertEqual(ask(pos, win(q, k), hold(q, k), proof(q, k)),
                                 [[wanted], [int(model_hold(pos, q, k))], told], (pos, q, k))
                seen[wanted] += 1
        self.assertGreater(min(seen.values()), 400)

    def test_check_of_rows_that_are_changed(self):
        rng = random.Random(3)
        seen = {0: 0, 1: 0}
        for pos in self.positions:
            for q, k in questions(pos, FEW_WAYS):
                told = ask(pos, proof(q, k))[0]
                row = told[1:] if told[0] else [rng.randint(0, 3) for number in range(rng.randint(0, 6))]
                for other in changed(rng, row):
                    wanted = int(model_accepts(pos, q, k, other))
                    self.assertEqual(ask(pos, check(q, k, *other)), [[wanted]], (pos, q, k, other))
                    seen[wanted] += 1
        self.assertGreater(min(seen.values()), 100)


def changed(rng, row):
    """Rows that are like the row: a number changed, cut short, longer, below 0."""
    rows = [row + [0], row + [-1], row[:-1], row[1:], [0] + row]
    for number in range(4):
        if row:
            place = rng.randrange(len(row))
            for value in (row[place] + 1, row[place] - 1, rng.randint(0, 8), -1, 10 ** 9, -10 ** 9):
                rows.append(row[:place] + [value] + row[place + 1:])
    return rows


class Promise1(unittest.TestCase):
    def test_just_one_of_win_and_hold(self):
        for pos in random_positions(4, 400) + random_positions(5, 100, 4, 3):
            for q, k in questions(pos):
                given = ask(pos, win(q, k), hold(q, k))
                self.assertIn(given, ([[0], [1]], [[1], [0]]), (pos, q, k))
                self.assertEqual(ask(pos, hold(q, k), win(q, k)), given[::-1])


class Promise2(unittest.TestCase):
    def test_a_proof_is_told_just_where_a_win_can_be_forced_and_is_accepted(self):
        for pos in random_positions(6, 400) + random_positions(7, 100, 4, 3):
            for q, k in questions(pos):
                won, told = ask(pos, win(q, k), proof(q, k))
                self.assertEqual(told[0], won[0])
                if won == [1]:
                    self.assertGreater(len(told), 1)
                    self.assertEqual(ask(pos, check(q, k, *told[1:])), [[1]], (pos, q, k))
                else:
                    self.assertEqual(told, [0])

    def test_it_is_a_proof_to_its_last_number(self):
        for pos in random_positions(8, 200):
            for q, k in questions(pos):
                told = ask(pos, proof(q, k))[0]
                if told[0] == 1:
                    row = told[1:]
                    self.assertEqual(ask(pos, check(q, k, *row[:-1]), check(q, k, *row, 0), check(q, k, *row, -1),
                                         check(q, k)), [[0]] * 4)

    def test_whatever_is_accepted_proves_a_forced_win(self):
        rng = random.Random(9)
        accepted = 0
        for pos in random_positions(10, 200, 2, 2):
            for q, k in questions(pos):
                rows = [[rng.randint(0, 3) for number in range(rng.choice((1, 1, 2, 3, 4)))] for time in range(8)]
                given = ask(pos, win(q, k), *[check(q, k, *row) for row in rows])
                if [1] in given[1:]:
                    self.assertEqual(given[0], [1])
                    accepted += 1
        self.assertGreater(accepted, 50)

    def test_a_proof_for_one_side_is_none_for_the_other(self):
        start = [life(1, 5), bolt(0, 5)]
        self.assertEqual(run(*start, check(0, 1, 1), check(1, 1, 1), check(1, 2, 1))[2:], [[1], [0], [0]])

    def test_a_long_row(self):
        start = [life(1, 5), bolt(0, 5)]
        for row in ([0] * 30000, [1] * 30000, [10 ** 9] * 30000, [-10 ** 9] * 30000):
            self.assertEqual(run(*start, check(0, 6, *row))[2:], [[0]])

    def test_a_long_proof(self):
        # Three times side 1 has eight choices, so many times is an answer proved.
        start = [being(1, 1, 1), being(1, 1, 1), being(1, 1, 1), bolt(0, 20), [4, 1]]
        told = run(*start, proof(0, 4))[-1]
        self.assertEqual(told[0], 1)
        self.assertGreater(len(told), 100)
        self.assertEqual(run(*start, check(0, 4, *told[1:]))[-1], [1])


class Promise3(unittest.TestCase):
    def test_a_win_within_k_is_one_within_more(self):
        for pos in random_positions(11, 400):
            asked = questions(pos)
            given = dict(zip(asked, ask(pos, *[win(q, k) for q, k in asked])))
            for q, k in asked:
                if (q, k + 1) in given:
                    self.assertLessEqual(given[(q, k)], given[(q, k + 1)], (pos, q, k))

    def test_more_never_hurts_ones_side(self):
        helped = 0
        for pos in random_positions(12, 250):
            for p in (0, 1):
                for better in improvements(pos, p):
                    asked = questions(better)
                    before = ask(pos, *[win(q, k) for q, k in asked])
                    after = ask(better, *[win(q, k) for q, k in asked])
                    for (q, k), old, new in zip(asked, before, after):
                        less, more = (old, new) if q == p else (new, old)
                        self.assertLessEqual(less, more, (pos, better, q, k))
                        helped += less != more
        self.assertGreater(helped, 100)


def improvements(pos, p):
    """The position with more life, one more being or one more bolt on side p."""
    made = []
    for points in (1, 10):
        better = copy.deepcopy(pos)
        better["sides"][p]["life"] += points
        made.append(better)
    for power, body, keys in ((0, 1, set()), (2, 2, set()), (1, 1, {3}), (2, 1, {0, 4})):
        better = copy.deepcopy(pos)
        better["sides"][p]["beings"].append({"power": power, "body": body, "keys": keys, "bent": False})
        made.append(better)
    for number in (1, 3):
        better = copy.deepcopy(pos)
        better["sides"][p]["bolts"].append(number)
        made.append(better)
    return made


class ManyInOneLine(unittest.TestCase):
    def test_the_same_as_one_by_one(self):
        for pos in random_positions(13, 60):
            asked = [call(q, k) for q, k in questions(pos, FEW_WAYS) for call in (win, hold, proof, win)]
            line = sum(calls_for(pos) + asked, [])
            self.assertEqual(split(answers(line))[-len(asked):], [ask(pos, call)[0] for call in asked])


if __name__ == "__main__":
    unittest.main()
