"""The calls 5 to 8: ranges, refusals and their order, and too many ways."""

import unittest

from helper import MOST, being, bolt, calls_for, check, hold, life, mover, position, proof, run, side, ways, win

CALLS = (win, hold, proof, check)


def crowd(first, second):
    """Beings and bolts without power to speak of: (beings, bolts) of each side."""
    calls = [life(0, MOST), life(1, MOST)]
    for p, told in enumerate((first, second)):
        calls += [being(p, 0, 1)] * told[0] + [bolt(p, 1)] * told[1]
    return calls


class Ranges(unittest.TestCase):
    def test_edges_of_k_and_q(self):
        for q in (0, 1):
            for k in (1, 6):
                self.assertEqual(run(win(q, k), hold(q, k), proof(q, k), check(q, k)), [[0], [1], [0], [0]])

    def test_numbers_outside_are_refused(self):
        for call in CALLS:
            for q in (-1, 2, MOST, -MOST):
                self.assertEqual(run(call(q, 1)), [[-1]])
            for k in (0, 7, -1, MOST, -MOST):
                self.assertEqual(run(call(0, k)), [[-1]])

    def test_a_refused_call_changes_nothing(self):
        start = [life(1, 5), bolt(0, 5)]
        for call in CALLS:
            for q, k in ((2, 1), (0, 0), (0, 7)):
                self.assertEqual(run(*start, call(q, k), proof(0, 1), proof(0, 3)),
                                 [[0], [0], [-1], [1, 1], [1, 0, 0, 1]])

    def test_an_answered_call_changes_nothing(self):
        start = [life(1, 5), bolt(0, 5)]
        for call in CALLS:
            self.assertEqual(run(*start, call(0, 1), call(0, 3), call(1, 2), proof(0, 1), proof(0, 3))[-2:],
                             [[1, 1], [1, 0, 0, 1]])


class TooManyWays(unittest.TestCase):
    def answers_of_all(self, start, k):
        given = run(*start, win(0, k), hold(0, k), proof(0, k), check(0, k), win(1, k), check(1, k, 0))
        return given[len(start):]

    def test_just_at_50000(self):
        # 5^2 * 2^4 * 5^3: two bolts and four beings against three.
        start = crowd((4, 2), (3, 0))
        self.assertEqual(self.answers_of_all(start, 1), [[0], [1], [0], [0], [0], [0]])
        self.assertEqual(self.answers_of_all(start, 2), [[-3]] * 6)

    def test_one_more_being_or_bolt_is_too_many(self):
        self.assertEqual(self.answers_of_all(crowd((4, 3), (3, 0)), 1), [[-3]] * 6)
        self.assertEqual(self.answers_of_all(crowd((4, 2), (4, 0)), 1), [[-3]] * 6)

    def test_what_the_other_side_has_counts_from_the_second_half_turn_on(self):
        self.assertEqual(self.answers_of_all(crowd((4, 2), (3, 3)), 1), [[0], [1], [0], [0], [0], [0]])
        start = crowd((0, 0), (4, 3))
        self.assertEqual(self.answers_of_all(start, 1), [[0], [1], [0], [0], [0], [0]])
        self.assertEqual(run(*start, mover(1), check(0, 1), check(0, 3))[-2:], [[0], [0]])

    def test_empty_powers_are_1(self):
        self.assertEqual(self.answers_of_all([], 6), [[0], [1], [0], [0], [0], [0]])
        # 2^3 for each of the three half-turns of side 0, 1 for the others.
        self.assertEqual(self.answers_of_all([bolt(0, 1)] * 3, 6), [[0], [1], [0], [0], [0], [0]])

    def test_every_count_of_beings_and_bolts(self):
        nearest_below = 0
        nearest_above = MOST
        for a in range(5):
            for o in range(5):
                for b in range(4):
                    for c in range(4):
                        pos = position(side(MOST, [(0, 1)] * a, [1] * b), side(MOST, [(0, 1)] * o, [1] * c))
                        start = calls_for(pos)
                        wanted = [ways(pos, k) for k in range(1, 7)]
                        given = run(*start, *[check(0, k) for k in range(1, 7)])[len(start):]
                        self.assertEqual(given, [[-3] if n > 50000 else [0] for n in wanted])
                        nearest_below = max([nearest_below] + [n for n in wanted if n <= 50000])
                        nearest_above = min([nearest_above] + [n for n in wanted if n > 50000])
        self.assertEqual((nearest_below, nearest_above), (50000, 55296))

    def test_just_above_50000(self):
        # 4 * 2^3 * 4^2 by side 0 and 2^2 * 3^3 by side 1 are 55296 together.
        self.assertEqual(self.answers_of_all(crowd((3, 1), (2, 0)), 1), [[0], [1], [0], [0], [0], [0]])
        self.assertEqual(self.answers_of_all(crowd((3, 1), (2, 0)), 2), [[-3]] * 6)

    def test_the_sides_take_turns(self):
        # (2^2 * 3^2)^3 is 46656, a fourth half-turn is too many.
        self.assertEqual(self.answers_of_all(crowd((2, 0), (2, 0)), 3), [[0], [1], [0], [0], [0], [0]])
        self.assertEqual(self.answers_of_all(crowd((2, 0), (2, 0)), 4), [[-3]] * 6)

    def test_the_side_to_move_decides_which_counts_come_first(self):
        start = crowd((4, 3), (3, 0))
        self.assertEqual(run(*start, check(0, 1), mover(1), check(0, 1), check(0, 2))[len(start):],
                         [[-3], [0], [0], [-3]])

    def test_a_wrong_number_is_told_ahead_of_too_many_ways(self):
        start = crowd((4, 3), (4, 3))
        for call in CALLS:
            given = run(*start, call(0, 1), call(2, 1), call(-1, 1), call(0, 0), call(0, 7))[len(start):]
            self.assertEqual(given, [[-3], [-1], [-1], [-1], [-1]])

    def test_the_refusal_changes_nothing(self):
        for call in CALLS:
            start = crowd((4, 3), (3, 0))
            given = run(*start, call(0, 1), call(0, 6), mover(1), win(1, 1), life(0, 1), win(1, 1))[len(start):]
            self.assertEqual(given, [[-3], [-3], [0], [0], [0], [0]])


if __name__ == "__main__":
    unittest.main()
