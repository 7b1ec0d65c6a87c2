"""The calls 10 to 13: ways, choice, blocks, block."""

import itertools
import unittest

from helper import (
    DREAD, MOST, REACH, SOAR, being, block, blocks, bolt, choice, crowd, last, life, mover, play, remove, run, state,
    undo, ways)

NAMES_NO_CHOICE = (-1, -2, -MOST, MOST)


class Ways(unittest.TestCase):
    def test_at_first_there_is_one(self):
        self.assertEqual(run(ways(), mover(1), ways()), [[0, 1, 1], [0], [0, 1, 1]])

    def test_beings_attack_or_not(self):
        for count in range(5):
            self.assertEqual(last(*[being(0, 1, 1)] * count, ways()), [0, 2 ** count, 2 ** count])

    def test_bolts_are_kept_or_thrown(self):
        for count in range(4):
            self.assertEqual(last(*[bolt(0, 1)] * count, ways()), [0, 2 ** count, 2 ** count])
            self.assertEqual(last(being(1, 0, 9), being(1, 0, 9), *[bolt(0, 1)] * count, ways()),
                             [0, 4 ** count, 4 ** count])

    def test_only_the_movers_beings_and_bolts_count(self):
        self.assertEqual(last(being(1, 1, 1), bolt(1, 1), bolt(1, 1), ways()), [0, 1, 1])
        self.assertEqual(last(being(1, 1, 1), bolt(1, 1), bolt(1, 1), mover(1), ways()), [0, 8, 8])

    def test_each_being_may_block_each_attacker(self):
        self.assertEqual(last(being(0, 1, 1), being(1, 1, 1), being(1, 1, 1), ways()), [0, 2, 1 + 4])
        self.assertEqual(last(being(0, 1, 1), being(0, 1, 1), being(1, 1, 1), ways()), [0, 4, 1 + 2 + 2 + 3])
        self.assertEqual(last(being(0, 1, 1), being(0, 1, 1), being(1, 1, 1), being(1, 1, 1), ways()),
                         [0, 4, 1 + 4 + 4 + 9])

    def test_soar_and_reach(self):
        for keys, count in (((), 1), ((SOAR,), 2), ((REACH,), 2), ((SOAR, REACH), 2), ((DREAD,), 1)):
            self.assertEqual(last(being(0, 1, 1, SOAR), being(1, 1, 1, *keys), ways()), [0, 2, 1 + count])
            self.assertEqual(last(being(0, 1, 1, REACH), being(1, 1, 1, *keys), ways()), [0, 2, 1 + 2])
        # The plain being may block the second attacker alone.
        self.assertEqual(last(being(0, 1, 1, SOAR), being(0, 1, 1), being(1, 1, 1), being(1, 1, 1, REACH), ways()),
                         [0, 4, 1 + 4 + 2 + 6])

    def test_dread(self):
        for count, ways_to_block in ((0, 1), (1, 1), (2, 2), (3, 5), (4, 12)):
            self.assertEqual(last(being(0, 1, 1, DREAD), *[being(1, 1, 1)] * count, ways()), [0, 2, 1 + ways_to_block])
        # Of the nine ways for both, the four in which just one blocks the first are none.
        self.assertEqual(last(being(0, 1, 1, DREAD), being(0, 1, 1), being(1, 1, 1), being(1, 1, 1), ways()),
                         [0, 4, 1 + 4 + 2 + 5])

    def test_beings_gone_by_bolts_do_not_block(self):
        start = [being(0, 1, 1), bolt(0, 2), being(1, 1, 2), being(1, 1, 3)]
        self.assertEqual(last(*start, ways()), [0, 8, 4 + 4 + 4 + 2 + 4])

    def test_bolts_that_win_leave_one_way_to_block(self):
        start = [being(0, 1, 1), bolt(0, 2), being(1, 1, 2), being(1, 1, 3)]
        for points, by_the_throw in ((1, 1), (2, 1), (3, 4)):
            self.assertEqual(last(*start, life(1, points), ways()), [0, 8, 4 + 4 + by_the_throw + 2 + 4])
        # Two bolts that win only together.
        start = [being(0, 1, 1), bolt(0, 1), bolt(0, 1), being(1, 1, 9)]
        self.assertEqual(last(*start, life(1, 2), ways()), [0, 18, 9 + 8 * 2 + 1])
        self.assertEqual(last(*start, life(1, 3), ways()), [0, 18, 9 + 9 * 2])

    def test_blows_that_win_leave_all_ways_to_block(self):
        self.assertEqual(last(life(1, 1), being(0, 9, 1), being(1, 1, 1), being(1, 1, 1), ways()), [0, 2, 1 + 4])

    def test_bent_beings_do_not_block(self):
        start = [being(0, 1, 9), being(0, 1, 9), being(1, 1, 9)]
        self.assertEqual(run(*start, play(0, 0), ways(), undo(), play(1, 0), ways(), undo(), play(3, 0), ways())[3:],
                         [[0, 0], [0, 2, 1 + 4], [0], [0, 0], [0, 2, 1 + 2], [0], [0, 0], [0, 2, 1 + 1]])

    def test_it_changes_nothing(self):
        start = [being(0, 1, 9), bolt(0, 3), being(1, 1, 9), play(1, 0)]
        given = run(*start, state(), ways(), ways(), state(), undo())[4:]
        self.assertEqual(given[0], given[3])
        self.assertEqual(given[1], given[2])
        self.assertEqual(given[4], [0])


class TooManyWays(unittest.TestCase):
    calls = [ways(), choice(0), blocks(0), block(0, 0), play(0, 0)]

    def test_just_50000_are_not_refused(self):
        # 5^2 * 2^4 * 5^3; hit by a bolt, a being is gone: 3, 2 or 1 are left in 4, 15 and 6 of 25 throws.
        start = crowd((4, 2), (3, 0))
        self.assertEqual(run(*start, *self.calls)[len(start):],
                         [[0, 400, 4 * 576 + 15 * 160 + 6 * 48], [0, 2, 0, 0], [0, 1], [0], [0, 0]])
        self.assertEqual(run(*start, choice(399), choice(400), blocks(399), blocks(15))[len(start):],
                         [[0, 2, 8, 8, 1, 2, 3, 4], [-5], [0, 25], [0, 125]])

    def test_more_are_refused(self):
        for start in (crowd((4, 3), (3, 0)), crowd((4, 2), (4, 0)), crowd((4, 3), (4, 3)), crowd((3, 3), (3, 0))):
            self.assertEqual(run(*start, *self.calls)[len(start):], [[-3]] * 5)

    def test_only_one_half_turn_counts(self):
        start = crowd((4, 2), (3, 3))
        self.assertEqual([given[0] for given in run(*start, *self.calls)[len(start):]], [0] * 5)
        start = crowd((3, 0), (4, 3))
        self.assertEqual([given[0] for given in run(*start, *self.calls)[len(start):]], [0] * 5)
        self.assertEqual(run(*start, mover(1), *self.calls)[len(start) + 1:], [[-3]] * 5)

    def test_it_is_told_ahead_of_what_names_nothing(self):
        start = crowd((4, 3), (3, 0))
        asked = [choice(-1), choice(MOST), blocks(-1), blocks(MOST), block(-1, 0), block(0, -1), block(MOST, MOST),
                 play(-1, 0), play(0, -1), play(MOST, MOST)]
        self.assertEqual(run(*start, *asked)[len(start):], [[-3]] * 10)

    def test_the_refusal_changes_nothing(self):
        start = crowd((4, 3), (3, 0))
        given = run(*start, state(), *self.calls, state())[len(start):]
        self.assertEqual(given[0], given[-1])

    def test_what_is_gone_does_not_count(self):
        start = crowd((4, 3), (3, 0))
        self.assertEqual(run(*start, ways(), remove(5), ways())[len(start):][0::2],
                         [[-3], [0, 4 ** 3 * 16, self.ways_of_three_bolts()]])

    def ways_of_three_bolts(self):
        # Of four attackers: 16, 48 or 160 ways over all that attack, where 0, 1 or 2 are left to block.
        total = 0
        for aims in itertools.product(range(4), repeat=3):
            left = 2 - len({aim for aim in aims if aim >= 2})
            total += {0: 16, 1: 48, 2: 160}[left]
        return total


class Choice(unittest.TestCase):
    def test_the_order_of_all_choices(self):
        start = [bolt(0, 3), bolt(0, 2), being(0, 1, 1), being(0, 1, 1), being(1, 1, 1), being(1, 1, 1)]
        wanted = []
        for first in (0, 1, 4, 5):
            for second in (0, 1, 4, 5):
                for attackers in ([], [2], [1], [1, 2]):
                    wanted.append([0, 2, first, second] + attackers)
        self.assertEqual(run(*start, *[choice(i) for i in range(64)])[6:], wanted)
        self.assertEqual(run(*start, *[choice(i) for i in (64, 65, *NAMES_NO_CHOICE)])[6:], [[-5]] * 6)

    def test_three_bolts_and_four_beings(self):
        start = [bolt(0, 1), bolt(0, 2), bolt(0, 3), *[being(0, 1, 1)] * 4]
        wanted = []
        for row in itertools.product((0, 1), repeat=7):
            wanted.append([0, 3, *row[:3]] + [number for number in range(1, 5) if row[2 + number]])
        self.assertEqual(run(*start, *[choice(i) for i in range(128)], choice(128))[7:], wanted + [[-5]])

    def test_with_nothing_there_is_one(self):
        self.assertEqual(run(choice(0), choice(1), *[choice(i) for i in NAMES_NO_CHOICE]), [[0, 0]] + [[-5]] * 5)

    def test_without_bolts_and_without_beings(self):
        self.assertEqual(run(being(0, 1, 1), choice(0), choice(1), choice(2))[1:], [[0, 0], [0, 0, 1], [-5]])
        self.assertEqual(run(bolt(0, 1), choice(0), choice(1), choice(2))[1:], [[0, 1, 0], [0, 1, 1], [-5]])

    def test_a_being_is_told_by_its_number_and_not_by_its_place(self):
        start = [bolt(0, 1)] + [being(1, 1, 9)] * 3 + [remove(1)]
        self.assertEqual(run(*start, *[choice(i) for i in range(5)])[5:],
                         [[0, 1, 0], [0, 1, 1], [0, 1, 3], [0, 1, 4], [-5]])
        self.assertEqual(run(*start, remove(2), being(1, 1, 9), *[choice(i) for i in range(5)])[7:],
                         [[0, 1, 0], [0, 1, 1], [0, 1, 4], [0, 1, 5], [-5]])

    def test_the_being_1_is_told_by_2(self):
        self.assertEqual(last(being(1, 1, 1), bolt(0, 1), choice(2)), [0, 1, 2])

    def test_attackers_are_told_by_their_numbers(self):
        start = [being(1, 1, 1), being(0, 1, 1), being(0, 1, 1), being(0, 1, 1), remove(3)]
        self.assertEqual(run(*start, *[choice(i) for i in range(5)])[5:],
                         [[0, 0], [0, 0, 4], [0, 0, 2], [0, 0, 2, 4], [-5]])

    def test_of_side_1(self):
        start = [being(0, 1, 1), being(1, 1, 1), bolt(1, 1), mover(1)]
        self.assertEqual(run(*start, *[choice(i) for i in range(7)])[4:],
                         [[0, 1, 0], [0, 1, 0, 2], [0, 1, 1], [0, 1, 1, 2], [0, 1, 2], [0, 1, 2, 2], [-5]])

    def test_behind_a_half_turn(self):
        # The bolt of side 0 does away with the first of side 1's beings; side 1 moves, then side 0 without a bolt.
        start = [being(0, 1, 5), bolt(0, 2), being(1, 1, 2), being(1, 1, 3), bolt(1, 1)]
        given = run(*start, play(4, 0), *[choice(i) for i in range(7)], play(0, 0), choice(1), choice(2))[5:]
        self.assertEqual(given[:8], [[0, 0], [0, 1, 0], [0, 1, 0, 3], [0, 1, 1], [0, 1, 1, 3], [0, 1, 2], [0, 1, 2, 3],
                                     [-5]])
        self.assertEqual(given[8:], [[0, 0], [0, 0, 1], [-5]])

    def test_it_changes_nothing(self):
        given = run(bolt(0, 1), being(1, 1, 1), state(), choice(2), choice(3), state())
        self.assertEqual(given[2], given[5])


class Blocks(unittest.TestCase):
    two_and_two = [being(0, 1, 1), being(0, 1, 1), being(1, 1, 1), being(1, 1, 1)]

    def test_the_order_of_all_ways(self):
        start = self.two_and_two
        wanted = [[0], [0, 4, 1], [0, 4, 2], [0, 3, 1], [0, 3, 1, 4, 1], [0, 3, 1, 4, 2],
                  [0, 3, 2], [0, 3, 2, 4, 1], [0, 3, 2, 4, 2]]
        self.assertEqual(run(*start, blocks(3), *[block(3, j) for j in range(9)])[4:], [[0, 9]] + wanted)
        self.assertEqual(run(*start, *[block(3, j) for j in (9, 10, *NAMES_NO_CHOICE)])[4:], [[-6]] * 6)

    def test_a_place_is_one_among_the_attackers(self):
        # Choice 1: the second being attacks alone.
        self.assertEqual(run(*self.two_and_two, blocks(1), *[block(1, j) for j in range(5)])[4:],
                         [[0, 4], [0], [0, 4, 2], [0, 3, 2], [0, 3, 2, 4, 2], [-6]])

    def test_where_nobody_attacks(self):
        self.assertEqual(run(*self.two_and_two, blocks(0), block(0, 0), block(0, 1))[4:], [[0, 1], [0], [-6]])

    def test_with_nothing(self):
        self.assertEqual(run(blocks(0), block(0, 0), block(0, 1), block(0, -1)), [[0, 1], [0], [-6], [-6]])

    def test_no_such_choice(self):
        start = self.two_and_two
        for i in (4, 5, *NAMES_NO_CHOICE):
            self.assertEqual(run(*start, blocks(i), *[block(i, j) for j in (0, 1, *NAMES_NO_CHOICE)])[4:], [[-5]] * 7)

    def test_no_such_way(self):
        start = self.two_and_two
        for i, count in ((0, 1), (1, 4), (2, 4), (3, 9)):
            self.assertEqual(run(*start, *[block(i, j) for j in (count, count + 1, *NAMES_NO_CHOICE)])[4:], [[-6]] * 6)

    def test_beings_gone_by_bolts_have_no_part(self):
        # The bolt is kept, at the side, at 2 (gone), at 3 (burnt), at 4 (gone), each without and with the attack.
        start = [being(0, 1, 1), being(1, 1, 2), being(1, 1, 3), being(1, 1, 2), bolt(0, 2)]
        self.assertEqual(run(*start, *[blocks(i) for i in range(11)])[5:],
                         [[0, 1], [0, 8], [0, 1], [0, 8], [0, 1], [0, 4], [0, 1], [0, 8], [0, 1], [0, 4], [-5]])
        self.assertEqual(run(*start, *[block(5, j) for j in range(5)])[5:],
                         [[0], [0, 4, 1], [0, 3, 1], [0, 3, 1, 4, 1], [-6]])
        self.assertEqual(run(*start, *[block(9, j) for j in range(5)])[5:],
                         [[0], [0, 3, 1], [0, 2, 1], [0, 2, 1, 3, 1], [-6]])

    def test_bolts_that_win_leave_one_way_in_which_nobody_blocks(self):
        start = [life(1, 2), being(0, 1, 1), being(1, 1, 2), being(1, 1, 3), bolt(0, 2)]
        self.assertEqual(run(*start, blocks(3), block(3, 0), block(3, 1), block(3, -1))[5:], [[0, 1], [0], [-6], [-6]])
        start[0] = life(1, 3)
        self.assertEqual(run(*start, blocks(3), block(3, 0), block(3, 1))[5:], [[0, 4], [0], [0, 3, 1]])

    def test_soar_and_reach(self):
        start = [being(0, 1, 1, SOAR), being(0, 1, 1), being(1, 1, 1), being(1, 1, 1, REACH)]
        self.assertEqual(run(*start, blocks(3), *[block(3, j) for j in range(7)])[4:],
                         [[0, 6], [0], [0, 4, 1], [0, 4, 2], [0, 3, 2], [0, 3, 2, 4, 1], [0, 3, 2, 4, 2], [-6]])

    def test_dread(self):
        start = [being(0, 1, 1, DREAD), being(1, 1, 1), being(1, 1, 1), being(1, 1, 1)]
        self.assertEqual(run(*start, blocks(1), *[block(1, j) for j in range(6)])[4:],
                         [[0, 5], [0], [0, 3, 1, 4, 1], [0, 2, 1, 4, 1], [0, 2, 1, 3, 1], [0, 2, 1, 3, 1, 4, 1], [-6]])

    def test_bent_beings(self):
        # The second of side 0's beings has attacked.
        start = [being(0, 1, 9), being(0, 1, 9), being(1, 1, 9), play(1, 0)]
        self.assertEqual(run(*start, blocks(1), *[block(1, j) for j in range(3)])[4:], [[0, 2], [0], [0, 1, 3], [-6]])

    def test_numbers_and_not_places(self):
        start = [being(1, 1, 1), being(0, 1, 1), being(0, 1, 1), being(1, 1, 1), being(0, 1, 1), remove(1), remove(2)]
        self.assertEqual(run(*start, *[block(3, j) for j in range(4)])[7:], [[0], [0, 4, 3], [0, 4, 5], [-6]])

    def test_of_side_1(self):
        start = [being(0, 1, 1), being(1, 1, 1), mover(1)]
        self.assertEqual(run(*start, blocks(1), block(1, 1), block(1, 2))[3:], [[0, 2], [0, 1, 2], [-6]])

    def test_as_many_as_ways_tells(self):
        start = [being(0, 1, 1, DREAD), being(0, 1, 1, SOAR), bolt(0, 2), bolt(0, 1),
                 being(1, 1, 1), being(1, 1, 2, REACH), being(1, 1, 3), life(1, 3)]
        told = last(*start, ways())
        counts = [given[1] for given in run(*start, *[blocks(i) for i in range(told[1])])[8:]]
        self.assertEqual([len(counts), sum(counts)], told[1:])
        for i, count in enumerate(counts):
            given = run(*start, *[block(i, j) for j in range(count + 1)])[8:]
            self.assertEqual(given[-1], [-6])
            self.assertEqual(len({tuple(way) for way in given[:-1]}), count)

    def test_they_change_nothing(self):
        start = self.two_and_two
        given = run(*start, state(), blocks(3), block(3, 4), block(3, 9), blocks(9), block(9, 0), state())[4:]
        self.assertEqual(given[0], given[-1])


if __name__ == "__main__":
    unittest.main()
