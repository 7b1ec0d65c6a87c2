"""A half-turn, worked out by hand: choices and blocks in their order, bolts, blows, and what is left."""

import unittest

from helper import CRUSH, DREAD, REACH, SOAR, VENOM, calls_for, last, position, proof, check, run, side, win


class HalfTurn(unittest.TestCase):
    def wins(self, first, second, q, k, to_move=0):
        return last(*calls_for(position(first, second, to_move)), win(q, k)) == [1]

    def told(self, first, second, q, k, to_move=0):
        return last(*calls_for(position(first, second, to_move)), proof(q, k))

    def takes(self, first, second, q, k, row, to_move=0):
        return last(*calls_for(position(first, second, to_move)), check(q, k, *row)) == [1]


class Choices(HalfTurn):
    def test_bolts_change_slowest_then_beings(self):
        # Bolts of 3 and 2, beings of 1 and 4: the least place that deals so much.
        first = side(20, [(1, 1), (4, 1)], [3, 2])
        for points, place in ((1, 1), (4, 1), (5, 3), (6, 5), (7, 7), (8, 11), (9, 13), (10, 15)):
            self.assertEqual(self.told(first, side(points), 0, 1), [1, place])
        self.assertEqual(self.told(first, side(11), 0, 1), [0])

    def test_a_bolt_is_kept_thrown_at_the_side_or_thrown_at_a_being(self):
        first = side(20, [(3, 5)], [2])
        self.assertEqual(self.told(first, side(2, [(0, 2)]), 0, 1), [1, 2])
        self.assertEqual(self.told(first, side(3, [(0, 2)]), 0, 1), [1, 5])
        self.assertEqual(self.told(first, side(3, [(0, 3)]), 0, 1), [0])

    def test_the_first_being_is_2_the_second_3(self):
        first = side(20, [(3, 5)], [2])
        self.assertEqual(self.told(first, side(3, [(0, 2), (0, 2)]), 0, 1), [0])
        reach = (0, 2, REACH)
        soaring = side(20, [(3, 5, SOAR)], [2])
        self.assertEqual(self.told(soaring, side(3, [reach, (0, 2)]), 0, 1), [1, 5])
        self.assertEqual(self.told(soaring, side(3, [(0, 2), reach]), 0, 1), [1, 7])
        self.assertEqual(self.told(soaring, side(3, [(0, 2), (0, 2), (0, 2), reach]), 0, 1), [1, 11])

    def test_the_first_bolt_changes_slowest(self):
        # The bolt of 2 goes at the being, the bolt of 3 at the side: 2 and 1, or 1 and 2, in base 3.
        foe = side(6, [(0, 2)])
        self.assertEqual(self.told(side(20, [(3, 5)], [2, 3]), foe, 0, 1), [1, (2 * 3 + 1) * 2 + 1])
        self.assertEqual(self.told(side(20, [(3, 5)], [3, 2]), foe, 0, 1), [1, (1 * 3 + 2) * 2 + 1])

    def test_a_thrown_bolt_is_gone_and_a_kept_one_stays(self):
        first = side(20, [], [2, 3])
        self.assertEqual(self.told(first, side(5), 0, 3), [1, 0, 0, 3])
        self.assertTrue(self.takes(first, side(5), 0, 3, [1, 0, 1]))
        self.assertTrue(self.takes(first, side(5), 0, 3, [2, 0, 1]))
        self.assertFalse(self.takes(first, side(5), 0, 3, [1, 0, 2]))
        self.assertFalse(self.takes(first, side(6), 0, 3, [1, 0, 1]))
        self.assertFalse(self.wins(first, side(6), 0, 5))

    def test_bolts_that_stay_keep_their_order(self):
        # The first bolt is thrown, then of the two that stay the one of 4 is thrown: place 1, then 2.
        self.assertTrue(self.takes(side(20, [], [1, 2, 4]), side(5), 0, 3, [4, 0, 1]))
        self.assertFalse(self.takes(side(20, [], [1, 2, 4]), side(5), 0, 3, [4, 0, 2]))

    def test_several_bolts_at_one_being_add_up(self):
        first = side(20, [(3, 5)], [1, 2])
        self.assertEqual(self.told(first, side(3, [(0, 3)]), 0, 1)[0], 1)
        self.assertTrue(self.takes(first, side(3, [(0, 3)]), 0, 1, [(2 * 3 + 2) * 2 + 1]))
        self.assertFalse(self.takes(first, side(3, [(0, 4)]), 0, 1, [(2 * 3 + 2) * 2 + 1]))


class Blocks(HalfTurn):
    # Side 1 moves with one being of power 5; side 0 has life 5, D of power 1 and E of power 3 with soar.
    mine = side(5, [(1, 1), (3, 9, SOAR)])
    foe = side(3, [(5, 1)])

    def test_the_first_being_changes_slowest(self):
        self.assertEqual(self.told(self.mine, self.foe, 0, 2, 1), [1, 0, 1, 1, 1])

    def test_other_proofs_are_taken_too(self):
        for row in ([0, 1, 1, 1], [0, 1, 2, 1], [0, 1, 3, 1], [0, 3, 1, 3], [0, 1, 1, 3]):
            self.assertTrue(self.takes(self.mine, self.foe, 0, 2, row, 1))

    def test_a_block_that_loses_is_no_proof(self):
        self.assertFalse(self.takes(self.mine, self.foe, 0, 2, [0, 1, 0, 1], 1))

    def test_places_beyond_and_below(self):
        for row in ([0, 1, 4, 1], [0, 1, -1, 1], [1, 1, 1, 1], [0, 4, 1, 1], [0, -1, 1, 1], [-1, 1, 1, 1],
                    [0, 1, 2, 2], [0, 1, 1, 10 ** 9], [0, 1, 1, -10 ** 9]):
            self.assertFalse(self.takes(self.mine, self.foe, 0, 2, row, 1))

    def test_cut_short_and_longer(self):
        for row in ([], [0], [0, 1], [0, 1, 1], [0, 1, 1, 1, 0], [0, 1, 1, 1, -1], [0, 0, 1, 1, 1]):
            self.assertFalse(self.takes(self.mine, self.foe, 0, 2, row, 1))

    def test_a_place_among_the_attackers_is_told(self):
        # Attackers of power 1 and 5 against life 6: blocking the second is the third way.
        foe = side(1, [(1, 1), (5, 1)])
        mine = side(6, [(1, 9, SOAR)])
        self.assertEqual(self.told(mine, foe, 0, 2, 1), [1, 0, 1, 0, 1, 0, 1, 1, 1])
        mine = side(3, [(1, 9, SOAR)])
        self.assertEqual(self.told(mine, foe, 0, 2, 1), [1, 0, 1, 1, 1, 0, 1, 2, 1])

    def test_bent_beings_do_not_block(self):
        mine = side(3, [(1, 5, SOAR), (1, 5, SOAR)])
        foe = side(3, [(3, 1)])
        self.assertEqual(self.told(mine, foe, 0, 3), [1, 1, 0, 3, 1, 3])
        self.assertTrue(self.takes(mine, foe, 0, 3, [2, 0, 3, 1, 3]))
        for row in ([1, 0, 3, 2, 3], [1, 0, 3, 3, 3], [2, 0, 3, 2, 3], [3, 0, 1, 0, 1], [3, 0, 1, 1, 1]):
            self.assertFalse(self.takes(mine, foe, 0, 3, row))

    def test_a_being_that_attacked_is_straight_again_when_its_side_moves(self):
        # The same one attacks in the first and the third half-turn.
        self.assertEqual(self.told(side(20, [(2, 1)]), side(4), 0, 3), [1, 1, 0, 1])

    def test_one_that_attacked_is_bent_while_the_other_side_moves(self):
        # Side 1's being can hold out only by staying back.
        mine = side(20, [(2, 9)])
        foe = side(2, [(1, 9)])
        self.assertFalse(self.wins(mine, foe, 0, 2, 1))
        self.assertFalse(self.takes(mine, foe, 0, 2, [0, 1, 0, 1], 1))
        soaring = side(20, [(2, 9, SOAR)])
        self.assertTrue(self.takes(soaring, foe, 0, 2, [0, 1, 0, 1], 1))

    def test_soar_is_blocked_by_soar_or_reach_alone(self):
        for keys, stopped in (((), False), ((SOAR,), True), ((REACH,), True), ((SOAR, REACH), True),
                              ((DREAD, VENOM, CRUSH), False)):
            self.assertEqual(self.wins(side(20, [(3, 1, SOAR)]), side(3, [(0, 9, *keys)]), 0, 1), not stopped)

    def test_one_without_soar_is_blocked_by_any(self):
        for key in range(5):
            self.assertFalse(self.wins(side(20, [(3, 1)]), side(3, [(0, 9, key)]), 0, 1))
            self.assertFalse(self.wins(side(20, [(3, 1, REACH)]), side(3, [(0, 9, key)]), 0, 1))

    def test_dread_is_not_blocked_by_just_one(self):
        for count, stopped in ((0, False), (1, False), (2, True), (3, True)):
            self.assertEqual(self.wins(side(20, [(3, 1, DREAD)]), side(3, [(0, 9)] * count), 0, 1), not stopped)

    def test_dread_and_soar_are_blocked_by_two_that_may(self):
        first = side(20, [(3, 1, DREAD, SOAR)])
        self.assertTrue(self.wins(first, side(3, [(0, 9, REACH), (0, 9)]), 0, 1))
        self.assertFalse(self.wins(first, side(3, [(0, 9, REACH), (0, 9, SOAR)]), 0, 1))

    def test_ways_that_dread_forbids_have_no_place(self):
        # Three beings against one with dread: 000, 011, 101, 110, 111.
        mine = side(5, [(1, 9, SOAR)] * 3)
        foe = side(1, [(5, 9, DREAD)])
        self.assertEqual(self.told(mine, foe, 0, 2, 1), [1, 0, 1, 1, 1])
        for place in range(-1, 7):
            self.assertEqual(self.takes(mine, foe, 0, 2, [0, 1, place, 1], 1), 1 <= place <= 4)

    def test_a_being_gone_by_bolts_has_no_part_in_blocks(self):
        # Side 1 throws its bolt at the first, the second or not at all; behind it one or two beings block.
        mine = side(9, [(1, 2, SOAR), (1, 2, SOAR)])
        foe = side(1, [], [2])
        self.assertEqual(self.told(mine, foe, 0, 2, 1), [1, 0, 1, 0, 1, 0, 1, 0, 1])
        self.assertTrue(self.takes(mine, foe, 0, 2, [0, 3, 0, 2, 0, 1, 0, 1], 1))
        self.assertFalse(self.takes(mine, foe, 0, 2, [0, 3, 0, 2, 0, 2, 0, 1], 1))
        self.assertFalse(self.takes(mine, foe, 0, 2, [0, 3, 0, 2, 0, 1, 0, 2], 1))


class WinsByBolts(HalfTurn):
    def test_nobody_blocks_and_nothing_follows(self):
        first = side(20, [(3, 1)], [4])
        foe = side(4, [(0, 9), (0, 9)])
        self.assertEqual(self.told(first, foe, 0, 1), [1, 2])
        for row, taken in (([2], True), ([3], True), ([2, 0], False), ([3, 0], False), ([1], False), ([8], False)):
            self.assertEqual(self.takes(first, foe, 0, 1, row), taken)

    def test_life_of_just_0_and_of_1(self):
        self.assertTrue(self.wins(side(20, [], [1, 1, 2]), side(4), 0, 1))
        self.assertFalse(self.wins(side(20, [], [1, 1, 2]), side(5), 0, 1))

    def test_the_other_side_that_wins_by_bolts_ends_it(self):
        self.assertTrue(self.wins(side(3, [(9, 9)]), side(1, [], [2]), 0, 2, 1))
        self.assertFalse(self.wins(side(2, [(9, 9)]), side(1, [], [2]), 0, 2, 1))
        self.assertFalse(self.takes(side(2, [(9, 9)]), side(1, [], [2]), 0, 2, [0, 1, 0, 1, 0, 1], 1))


class WinsByBlows(HalfTurn):
    def test_power_adds_up_with_bolts(self):
        self.assertTrue(self.wins(side(20, [(2, 1), (1, 1)], [3]), side(6), 0, 1))
        self.assertFalse(self.wins(side(20, [(2, 1), (1, 1)], [3]), side(7), 0, 1))

    def test_damage_to_a_side_stays(self):
        self.assertTrue(self.wins(side(20, [(2, 1)]), side(6), 0, 5))
        self.assertFalse(self.wins(side(20, [(2, 1)]), side(7), 0, 6))

    def test_a_blocked_one_without_crush_deals_nothing_to_the_side(self):
        self.assertFalse(self.wins(side(20, [(1000, 1)]), side(1, [(0, 1)]), 0, 1))

    def test_crush_deals_what_is_left(self):
        for points, won in ((3, True), (4, False)):
            self.assertEqual(self.wins(side(20, [(5, 1, CRUSH)]), side(points, [(0, 2)]), 0, 1), won)

    def test_crush_through_several(self):
        for points, won in ((3, True), (4, False)):
            self.assertEqual(self.wins(side(20, [(9, 1, CRUSH)]), side(points, [(0, 2), (0, 1), (0, 3)]), 0, 1), won)

    def test_crush_with_less_than_enough(self):
        self.assertFalse(self.wins(side(20, [(5, 1, CRUSH)]), side(1, [(0, 5)]), 0, 1))
        self.assertFalse(self.wins(side(20, [(5, 1, CRUSH)]), side(1, [(0, 9)]), 0, 1))

    def test_venom_makes_1_enough(self):
        for points, won in ((4, True), (5, False)):
            self.assertEqual(self.wins(side(20, [(5, 1, CRUSH, VENOM)]), side(points, [(0, 9)]), 0, 1), won)
        for points, won in ((3, True), (4, False)):
            self.assertEqual(self.wins(side(20, [(5, 1, CRUSH, VENOM)]), side(points, [(0, 9), (0, 1)]), 0, 1), won)

    def test_damage_by_bolts_counts_for_what_is_enough(self):
        first = side(20, [(5, 1, CRUSH)], [3])
        self.assertTrue(self.takes(first, side(3, [(0, 5)]), 0, 1, [5]))
        self.assertFalse(self.takes(first, side(4, [(0, 5)]), 0, 1, [5]))
        venomous = side(20, [(5, 1, CRUSH, VENOM)], [3])
        self.assertTrue(self.takes(venomous, side(4, [(0, 5)]), 0, 1, [5]))
        self.assertTrue(self.takes(venomous, side(4, [(0, 4)]), 0, 1, [5]))
        self.assertFalse(self.takes(venomous, side(5, [(0, 4)]), 0, 1, [5]))

    def test_damage_by_bolts_is_forgotten(self):
        # Burnt by 2 in the first half-turn, it still takes 4 in the third.
        first = side(20, [(4, 9, CRUSH)], [2])
        foe = side(2, [(0, 4)])
        self.assertFalse(self.takes(first, foe, 0, 3, [4, 0, 1, 0, 1]))
        self.assertTrue(self.takes(first, side(2, [(0, 2)]), 0, 3, [4, 0, 1]))


class BeingsGone(HalfTurn):
    def test_by_bolts_and_blows_together(self):
        # A burn of 3 and a blow of 2; where it blocks, the way is free in the third half-turn.
        first = side(20, [(2, 9)], [3])
        self.assertTrue(self.takes(first, side(2, [(0, 5)]), 0, 3, [5, 0, 1]))
        self.assertFalse(self.takes(first, side(2, [(0, 6)]), 0, 3, [5, 0, 1]))
        self.assertFalse(self.takes(first, side(2, [(0, 6)]), 0, 3, [5, 0, 1, 0, 1]))

    def test_all_blockers_strike_the_attacker_though_they_fall(self):
        foe = side(1, [(2, 1), (3, 1)])
        self.assertEqual(self.told(side(20, [(2, 6, DREAD)]), foe, 0, 3), [1, 1, 0, 1])
        self.assertEqual(self.told(side(20, [(2, 5, DREAD)]), foe, 0, 3), [0])

    def test_in_the_order_of_the_beings(self):
        # Of power 2, all goes to the first of two blockers of body 2: of those it is E that stays, or D.
        foe = side(1, [(2, 9, DREAD)])
        strong, weak = (1, 2, SOAR), (0, 2, SOAR)
        self.assertTrue(self.takes(side(2, [weak, strong]), foe, 0, 2, [0, 1, 1, 1], 1))
        self.assertFalse(self.takes(side(2, [strong, weak]), foe, 0, 2, [0, 2, 1, 1], 1))
        self.assertTrue(self.takes(side(3, [strong, weak]), foe, 0, 2, [0, 2, 0, 2], 1))

    def test_a_blow_that_is_not_enough_leaves_it(self):
        foe = side(1, [(2, 9)])
        self.assertTrue(self.takes(side(2, [(1, 3, SOAR)]), foe, 0, 2, [0, 1, 1, 1], 1))
        self.assertFalse(self.takes(side(2, [(1, 2, SOAR)]), foe, 0, 2, [0, 1, 1, 1], 1))

    def test_venom_of_an_attacker(self):
        # Two blockers of body 5: power 2 bites both, power 1 the first alone, power 0 none.
        mine = side(20, [(0, 5), (1, 5, SOAR)])
        for power, last_choice in ((1, 1), (0, 1)):
            foe = side(1, [(power, 9, VENOM)])
            self.assertTrue(self.takes(mine, foe, 0, 2, [0, 1, 3, last_choice], 1))
        foe = side(1, [(2, 9, VENOM)])
        for last_choice in range(4):
            self.assertFalse(self.takes(mine, foe, 0, 2, [0, 1, 3, last_choice], 1))
        # Behind power 1 only one being is left, so that there is no choice 3.
        self.assertFalse(self.takes(mine, side(1, [(1, 9, VENOM)]), 0, 2, [0, 1, 3, 3], 1))
        self.assertTrue(self.takes(mine, side(1, [(0, 9, VENOM)]), 0, 2, [0, 1, 3, 3], 1))

    def test_venom_of_a_blocker(self):
        first = side(20, [(1, 9)])
        self.assertTrue(self.wins(first, side(1, [(1, 1)]), 0, 3))
        self.assertFalse(self.wins(first, side(1, [(1, 1, VENOM)]), 0, 3))
        self.assertTrue(self.wins(first, side(1, [(0, 1, VENOM)]), 0, 3))

    def test_venom_of_an_attacker_that_is_not_blocked_bites_nobody(self):
        mine = side(20, [(1, 5, SOAR)])
        self.assertTrue(self.takes(mine, side(1, [(3, 9, VENOM)]), 0, 2, [0, 1, 0, 1], 1))

    def test_venom_does_not_come_with_bolts(self):
        mine = side(20, [(1, 5, SOAR)])
        foe = side(1, [(0, 9, VENOM)], [4])
        self.assertTrue(self.wins(mine, foe, 0, 2, 1))
        self.assertFalse(self.wins(side(20, [(1, 4, SOAR)]), foe, 0, 2, 1))

    def test_the_side_that_wins_wins_though_its_attacker_falls(self):
        self.assertEqual(self.told(side(20, [(5, 1, CRUSH)]), side(1, [(9, 1)]), 0, 1), [1, 1])


class FirstThatCanBeProved(HalfTurn):
    def test_waiting_is_told_where_it_still_wins_in_time(self):
        first = side(20, [(5, 1)])
        self.assertEqual(self.told(first, side(5), 0, 1), [1, 1])
        self.assertEqual(self.told(first, side(5), 0, 2), [1, 1])
        self.assertEqual(self.told(first, side(5), 0, 3), [1, 0, 0, 1])
        self.assertEqual(self.told(first, side(5), 0, 5), [1, 0, 0, 0, 0, 1])

    def test_a_proof_within_less_is_one_within_more(self):
        first = side(20, [(5, 1)])
        for k in range(1, 7):
            self.assertTrue(self.takes(first, side(5), 0, k, [1]))
            self.assertEqual(self.takes(first, side(5), 0, k, [0, 0, 1]), k >= 3)

    def test_one_line_with_all(self):
        start = calls_for(position(side(5, [(1, 1), (3, 9, SOAR)]), side(3, [(5, 1)]), 1))
        self.assertEqual(run(*start, proof(0, 2), proof(1, 2), proof(1, 1), check(0, 2, 0, 1, 2, 1))[len(start):],
                         [[1, 0, 1, 1, 1], [0], [0], [1]])


if __name__ == "__main__":
    unittest.main()
