"""The calls 5 to 9: ranges, refusals and their order, too many ways, and what least tells."""

import unittest

from helper import (
    MOST, SOAR, being, bolt, calls_for, check, crowd, hold, last, least, life, model_ways, mover, play, position, proof,
    run, side, undo, win)

CALLS = (win, hold, proof, check, least)
# What answers_of_all tells where nobody can force a win.
NOTHING_FORCED = [[0], [1], [0], [0], [0], [0], [0]]


class Ranges(unittest.TestCase):
    def test_edges_of_k_and_q(self):
        for q in (0, 1):
            for k in (1, 6):
                self.assertEqual(run(win(q, k), hold(q, k), proof(q, k), check(q, k), least(q, k)),
                                 [[0], [1], [0], [0], [0]])

    def test_numbers_outside_are_refused(self):
        for call in CALLS:
            for q in (-1, 2, MOST, -MOST):
                self.assertEqual(run(call(q, 1)), [[-1]])
            for k in (0, 7, -1, MOST, -MOST):
                self.assertEqual(run(call(0, k)), [[-1]])

    def test_a_refused_call_changes_nothing(self):
        start = [life(1, 5), bolt(0, 5)]
        for call in CALLS:
            for q, k in ((2, 1), (0, 0), (0, 7)):
                self.assertEqual(run(*start, call(q, k), proof(0, 1), proof(0, 3)),
                                 [[0], [0], [-1], [1, 1], [1, 0, 0, 1]])

    def test_an_answered_call_changes_nothing(self):
        start = [life(1, 5), bolt(0, 5)]
        for call in CALLS:
            self.assertEqual(run(*start, call(0, 1), call(0, 3), call(1, 2), proof(0, 1), proof(0, 3))[-2:],
                             [[1, 1], [1, 0, 0, 1]])


class TooManyWays(unittest.TestCase):
    def answers_of_all(self, start, k):
        given = run(*start, win(0, k), hold(0, k), proof(0, k), check(0, k), win(1, k), check(1, k, 0), least(0, k))
        return given[len(start):]

    def test_just_at_50000(self):
        # 5^2 * 2^4 * 5^3: two bolts and four beings against three.
        start = crowd((4, 2), (3, 0))
        self.assertEqual(self.answers_of_all(start, 1), NOTHING_FORCED)
        self.assertEqual(self.answers_of_all(start, 2), [[-3]] * 7)

    def test_one_more_being_or_bolt_is_too_many(self):
        self.assertEqual(self.answers_of_all(crowd((4, 3), (3, 0)), 1), [[-3]] * 7)
        self.assertEqual(self.answers_of_all(crowd((4, 2), (4, 0)), 1), [[-3]] * 7)

    def test_what_the_other_side_has_counts_from_the_second_half_turn_on(self):
        self.assertEqual(self.answers_of_all(crowd((4, 2), (3, 3)), 1), NOTHING_FORCED)
        start = crowd((0, 0), (4, 3))
        self.assertEqual(self.answers_of_all(start, 1), NOTHING_FORCED)
        self.assertEqual(run(*start, mover(1), check(0, 1), check(0, 3))[-2:], [[0], [0]])

    def test_empty_powers_are_1(self):
        self.assertEqual(self.answers_of_all([], 6), NOTHING_FORCED)
        # 2^3 for each of the three half-turns of side 0, 1 for the others.
        self.assertEqual(self.answers_of_all([bolt(0, 1)] * 3, 6), NOTHING_FORCED)

    def test_every_count_of_beings_and_bolts(self):
        nearest_below = 0
        nearest_above = MOST
        for a in range(5):
            for o in range(5):
                for b in range(4):
                    for c in range(4):
                        pos = position(side(MOST, [(0, 1)] * a, [1] * b), side(MOST, [(0, 1)] * o, [1] * c))
                        start = calls_for(pos)
                        wanted = [model_ways(pos, k) for k in range(1, 7)]
                        given = run(*start, *[check(0, k) for k in range(1, 7)])[len(start):]
                        self.assertEqual(given, [[-3] if n > 50000 else [0] for n in wanted])
                        nearest_below = max([nearest_below] + [n for n in wanted if n <= 50000])
                        nearest_above = min([nearest_above] + [n for n in wanted if n > 50000])
        self.assertEqual((nearest_below, nearest_above), (50000, 55296))

    def test_just_above_50000(self):
        # 4 * 2^3 * 4^2 by side 0 and 2^2 * 3^3 by side 1 are 55296 together.
        self.assertEqual(self.answers_of_all(crowd((3, 1), (2, 0)), 1), NOTHING_FORCED)
        self.assertEqual(self.answers_of_all(crowd((3, 1), (2, 0)), 2), [[-3]] * 7)

    def test_the_sides_take_turns(self):
        # (2^2 * 3^2)^3 is 46656, a fourth half-turn is too many.
        self.assertEqual(self.answers_of_all(crowd((2, 0), (2, 0)), 3), NOTHING_FORCED)
        self.assertEqual(self.answers_of_all(crowd((2, 0), (2, 0)), 4), [[-3]] * 7)

    def test_the_side_to_move_decides_which_counts_come_first(self):
        start = crowd((4, 3), (3, 0))
        self.assertEqual(run(*start, check(0, 1), mover(1), check(0, 1), check(0, 2))[len(start):],
                         [[-3], [0], [0], [-3]])

    def test_a_wrong_number_is_told_ahead_of_too_many_ways(self):
        start = crowd((4, 3), (4, 3))
        for call in CALLS:
            given = run(*start, call(0, 1), call(2, 1), call(-1, 1), call(0, 0), call(0, 7))[len(start):]
            self.assertEqual(given, [[-3], [-1], [-1], [-1], [-1]])

    def test_the_refusal_changes_nothing(self):
        for call in CALLS:
            start = crowd((4, 3), (3, 0))
            given = run(*start, call(0, 1), call(0, 6), mover(1), win(1, 1), life(0, 1), win(1, 1))[len(start):]
            self.assertEqual(given, [[-3], [-3], [0], [0], [0], [0]])

    def test_the_counts_are_those_of_the_position_now(self):
        # Side 1 throws its second bolt at the third of side 0's four beings.
        start = [life(0, MOST), life(1, MOST), being(1, 9, 99), *[being(0, 0, 1)] * 4, bolt(1, 1), bolt(1, 1)]
        pos = position(side(MOST, [(0, 1)] * 4), side(MOST, [(9, 99)], [1, 1]), 1)
        self.assertEqual((model_ways(pos, 1), model_ways(pos, 2), model_ways(pos, 3)), (1152, 92160, 106168320))
        self.assertEqual(last(*start, mover(1), check(0, 2)), [-3])
        pos = position(side(MOST, [(0, 1)] * 3), side(MOST, [(9, 99)], [1]), 0)
        self.assertEqual((model_ways(pos, 1), model_ways(pos, 2), model_ways(pos, 3)), (32, 2560, 81920))
        given = run(*start, mover(1), play(4 * 2, 0), check(0, 2), check(0, 3), undo(), check(0, 1), check(0, 2))
        self.assertEqual(given[len(start):], [[0], [0, 0], [0], [-3], [0], [0], [-3]])


class Least(unittest.TestCase):
    def test_the_least_number_and_0_where_there_is_none_within_k(self):
        # A bolt of 5 and a being of 5: life 5 falls at once, 10 at once, 15 in the third, 20 in the fifth half-turn.
        for points, wanted in ((5, 1), (10, 1), (11, 3), (15, 3), (16, 5), (20, 5), (21, 0)):
            start = [life(1, points), bolt(0, 5), being(0, 5, 1)]
            for k in range(1, 7):
                self.assertEqual(last(*start, least(0, k)), [wanted if wanted <= k else 0], (points, k))
                self.assertEqual(last(*start, least(1, k)), [0])

    def test_where_the_other_side_moves_first(self):
        start = [life(1, 5), bolt(0, 5), mover(1)]
        self.assertEqual([last(*start, least(0, k)) for k in range(1, 7)], [[0], [2], [2], [2], [2], [2]])
        start = [life(0, 9), being(1, 5, 1, SOAR)]
        self.assertEqual([last(*start, least(1, k)) for k in range(1, 7)], [[0], [0], [0], [4], [4], [4]])

    def test_what_was_asked_before_changes_nothing(self):
        start = [life(1, 15), bolt(0, 5), being(0, 5, 1)]
        asked = [least(0, 6), win(0, 2), least(0, 2), win(0, 6), least(0, 3), proof(0, 3), least(0, 6), hold(0, 3)]
        given = run(*start, *asked)[len(start):]
        self.assertEqual(given, [[3], [0], [0], [1], [3], last(*start, proof(0, 3)), [3], [0]])

    def test_it_follows_the_position(self):
        start = [life(1, 15), bolt(0, 5), being(0, 5, 1)]
        given = run(*start, least(0, 6), life(1, 10), least(0, 6), life(1, 15), play(3, 0), least(0, 6), least(1, 6),
                    play(0, 0), least(0, 6), undo(), undo(), least(0, 6))[len(start):]
        self.assertEqual(given, [[3], [0], [1], [0], [0, 0], [2], [0], [0, 0], [1], [0], [0], [3]])

    def test_too_many_ways_of_k_though_fewer_would_do(self):
        start = crowd((2, 0), (2, 0)) + [life(1, 1), bolt(0, 1)]
        # 4 * 36 for side 0, 36 for side 1: a third half-turn is too many.
        self.assertEqual(run(*start, least(0, 1), least(0, 2), least(0, 3))[len(start):], [[1], [1], [-3]])


if __name__ == "__main__":
    unittest.main()
