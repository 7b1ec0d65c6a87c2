"""The calls 0 to 4: life, being, remove, bolt, mover."""

import unittest

from helper import CRUSH, MOST, SOAR, being, bolt, check, last, life, mover, proof, remove, run, win

FULL_OF_BEINGS = [being(0, 1, 1)] * 4
FULL_OF_BOLTS = [bolt(0, 1)] * 3


class Life(unittest.TestCase):
    def test_it_is_20_at_first_on_both_sides(self):
        for p in (0, 1):
            self.assertEqual(last(mover(1 - p), bolt(1 - p, 20), win(1 - p, 1)), [1])
            self.assertEqual(last(mover(1 - p), bolt(1 - p, 19), win(1 - p, 1)), [0])

    def test_it_is_n_from_now_on(self):
        self.assertEqual(run(life(1, 5), bolt(0, 5), win(0, 1), life(1, 6), win(0, 1), life(1, 4), win(0, 1)),
                         [[0], [0], [1], [0], [0], [0], [1]])

    def test_only_the_side_that_is_told_has_it(self):
        self.assertEqual(last(life(0, 5), bolt(0, 5), win(0, 1)), [0])

    def test_edges_of_n(self):
        self.assertEqual(run(life(1, MOST), bolt(0, MOST), win(0, 1)), [[0], [0], [1]])
        self.assertEqual(run(life(1, MOST), bolt(0, MOST - 1), win(0, 1)), [[0], [0], [0]])
        self.assertEqual(run(life(1, 1), bolt(0, 1), win(0, 1)), [[0], [0], [1]])
        self.assertEqual(run(life(0, 1), life(0, MOST), life(1, 1), life(1, MOST)), [[0]] * 4)

    def test_numbers_outside_are_refused_and_change_nothing(self):
        for n in (0, -1, -MOST):
            self.assertEqual(run(life(1, 5), bolt(0, 5), life(1, n), win(0, 1)), [[0], [0], [-1], [1]])
        for p in (-1, 2, MOST, -MOST):
            self.assertEqual(run(bolt(0, 5), life(p, 5), win(0, 1)), [[0], [-1], [0]])


class BeingCall(unittest.TestCase):
    def test_numbers_are_given_in_order_over_both_sides(self):
        self.assertEqual(run(being(0, 1, 1), being(1, 1, 1), being(1, 1, 1), being(0, 1, 1)),
                         [[0, 1], [0, 2], [0, 3], [0, 4]])

    def test_a_number_is_never_given_twice(self):
        self.assertEqual(run(being(0, 1, 1), being(0, 1, 1), remove(2), being(0, 1, 1), remove(1), being(1, 1, 1)),
                         [[0, 1], [0, 2], [0], [0, 3], [0], [0, 4]])

    def test_a_refused_one_uses_up_no_number(self):
        self.assertEqual(run(being(2, 1, 1), being(0, 1, 0), being(0, 1, 1, 5), being(0, 1, 1)),
                         [[-1], [-1], [-1], [0, 1]])

    def test_edges_of_power_and_body(self):
        self.assertEqual(run(being(0, 0, 1), being(0, MOST, MOST)), [[0, 1], [0, 2]])
        self.assertEqual(run(life(1, MOST), being(0, MOST, 1), win(0, 1)), [[0], [0, 1], [1]])
        self.assertEqual(run(life(1, MOST), being(0, MOST - 1, 1), win(0, 1)), [[0], [0, 1], [0]])
        self.assertEqual(run(life(1, 1), being(0, 0, 1), win(0, 1)), [[0], [0, 1], [0]])

    def test_numbers_outside_are_refused(self):
        for p in (-1, 2, MOST, -MOST):
            self.assertEqual(run(being(p, 1, 1)), [[-1]])
        for power in (-1, -MOST):
            self.assertEqual(run(being(0, power, 1)), [[-1]])
        for body in (0, -1, -MOST):
            self.assertEqual(run(being(0, 1, body)), [[-1]])
        for row in ([-1], [5], [MOST], [-MOST], [0, 5], [5, 0], [0, 1, 2, 3, 4, -1]):
            self.assertEqual(run(being(0, 1, 1, *row)), [[-1]])

    def test_refused_ones_do_not_stand_there(self):
        refused = [being(2, 9, 9), being(0, -1, 9), being(0, 9, 0), being(0, 9, 9, 5), being(0, 9, 9, -1)]
        self.assertEqual(run(life(1, 9), *refused, win(0, 1)), [[0], [-1], [-1], [-1], [-1], [-1], [0]])

    def test_all_keys_and_none(self):
        self.assertEqual(run(being(0, 1, 1), being(0, 1, 1, 0, 1, 2, 3, 4)), [[0, 1], [0, 2]])
        for key in range(5):
            self.assertEqual(run(being(0, 1, 1, key)), [[0, 1]])

    def test_a_key_may_stand_twice_and_counts_once(self):
        self.assertEqual(run(being(1, 0, 9), life(1, 5), being(0, 5, 1, SOAR, SOAR), win(0, 1)),
                         [[0, 1], [0], [0, 2], [1]])
        self.assertEqual(last(being(1, 0, 1), life(1, 5), being(0, 5, 1, *[CRUSH] * 100), win(0, 1)), [0])
        self.assertEqual(last(being(1, 0, 1), life(1, 4), being(0, 5, 1, *[CRUSH] * 100), win(0, 1)), [1])

    def test_it_stands_last(self):
        # The proof tells the place of the attacker of power 5: first 0b10, then 0b001.
        self.assertEqual(run(life(1, 5), being(0, 5, 1), being(0, 1, 1), proof(0, 1), remove(1),
                             being(0, 1, 1), being(0, 5, 1), proof(0, 1)),
                         [[0], [0, 1], [0, 2], [1, 2], [0], [0, 3], [0, 4], [1, 1]])

    def test_a_fifth_is_refused(self):
        self.assertEqual(run(*FULL_OF_BEINGS, being(0, 1, 1), being(1, 1, 1)),
                         [[0, 1], [0, 2], [0, 3], [0, 4], [-4], [0, 5]])

    def test_a_fifth_changes_nothing(self):
        self.assertEqual(last(life(1, 5), *FULL_OF_BEINGS, being(0, 5, 1), win(0, 1)), [0])

    def test_another_may_come_where_one_is_gone(self):
        self.assertEqual(run(*FULL_OF_BEINGS, being(0, 1, 1), remove(3), being(0, 1, 1), being(0, 1, 1))[4:],
                         [[-4], [0], [0, 5], [-4]])

    def test_a_wrong_number_is_told_ahead_of_a_full_side(self):
        self.assertEqual(run(*FULL_OF_BEINGS, being(0, -1, 1), being(0, 1, 0), being(0, 1, 1, 5), being(2, 1, 1))[4:],
                         [[-1]] * 4)


class Remove(unittest.TestCase):
    def test_the_being_is_gone(self):
        for p in (0, 1):
            self.assertEqual(run(mover(p), life(1 - p, 5), being(p, 5, 1), win(p, 1), remove(1), win(p, 1)),
                             [[0], [0], [0, 1], [1], [0], [0]])

    def test_only_that_one_is_gone(self):
        self.assertEqual(last(life(1, 5), being(0, 5, 1), being(0, 2, 1), being(0, 3, 1), remove(1), proof(0, 1)),
                         [1, 3])
        self.assertEqual(last(life(1, 3), being(0, 5, 1), being(0, 2, 1), being(0, 3, 1), remove(2), proof(0, 1)),
                         [1, 1])

    def test_none_of_that_number_is_refused(self):
        self.assertEqual(run(*[remove(n) for n in (0, 1, -1, MOST, -MOST)]), [[-5]] * 5)
        self.assertEqual(run(being(0, 1, 1), remove(2), remove(0), remove(1), remove(1)),
                         [[0, 1], [-5], [-5], [0], [-5]])

    def test_a_refusal_changes_nothing(self):
        self.assertEqual(run(life(1, 5), being(0, 5, 1), remove(2), remove(-1), win(0, 1), being(0, 1, 1)),
                         [[0], [0, 1], [-5], [-5], [1], [0, 2]])


class Bolt(unittest.TestCase):
    def test_it_stands_last(self):
        self.assertEqual(run(life(1, 5), bolt(0, 5), bolt(0, 1), proof(0, 1)), [[0], [0], [0], [1, 2]])
        self.assertEqual(run(life(1, 5), bolt(0, 1), bolt(0, 5), proof(0, 1)), [[0], [0], [0], [1, 1]])

    def test_each_side_has_its_own(self):
        self.assertEqual(run(life(0, 5), life(1, 5), bolt(1, 5), win(0, 1), mover(1), win(1, 1)),
                         [[0], [0], [0], [0], [0], [1]])

    def test_edges_of_n(self):
        self.assertEqual(run(bolt(0, 1), bolt(0, MOST), bolt(1, 1), bolt(1, MOST)), [[0]] * 4)

    def test_numbers_outside_are_refused_and_change_nothing(self):
        for call in (bolt(0, 0), bolt(0, -1), bolt(0, -MOST), bolt(-1, 5), bolt(2, 5), bolt(MOST, 5), bolt(-MOST, 5)):
            self.assertEqual(run(life(1, 1), call, win(0, 1), check(0, 1, 1)), [[0], [-1], [0], [0]])

    def test_a_fourth_is_refused_and_changes_nothing(self):
        self.assertEqual(run(life(1, 4), *FULL_OF_BOLTS, bolt(0, 9), win(0, 1), bolt(1, 1)),
                         [[0], [0], [0], [0], [-4], [0], [0]])

    def test_a_wrong_number_is_told_ahead_of_a_full_side(self):
        self.assertEqual(run(*FULL_OF_BOLTS, bolt(0, 0), bolt(2, 1), bolt(-1, 1))[3:], [[-1]] * 3)


class Mover(unittest.TestCase):
    def test_side_0_is_to_move_at_first(self):
        both = [life(0, 5), life(1, 5), bolt(0, 5), bolt(1, 5)]
        self.assertEqual(run(*both, win(0, 1), win(1, 1))[4:], [[1], [0]])

    def test_p_is_to_move(self):
        both = [life(0, 5), life(1, 5), bolt(0, 5), bolt(1, 5)]
        self.assertEqual(run(*both, mover(1), win(0, 1), win(1, 1), mover(1), win(1, 1), mover(0), win(0, 1))[4:],
                         [[0], [0], [1], [0], [1], [0], [1]])

    def test_its_beings_stay(self):
        self.assertEqual(run(life(1, 5), being(0, 5, 1), mover(1), mover(0), win(0, 1))[2:], [[0], [0], [1]])

    def test_numbers_outside_are_refused_and_change_nothing(self):
        for p in (-1, 2, MOST, -MOST):
            self.assertEqual(run(life(1, 5), bolt(0, 5), mover(p), win(0, 1)), [[0], [0], [-1], [1]])


if __name__ == "__main__":
    unittest.main()
