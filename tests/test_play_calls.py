"""The calls 14 to 16: play, undo, state, and what holds where a side has won."""

import unittest

from helper import (
    CRUSH, DREAD, MOST, REACH, SOAR, VENOM, being, block, blocks, bolt, check, choice, crowd, hold, last, least, life,
    mover, play, proof, remove, run, state, undo, ways, win)

AT_FIRST = [0, 0, 0, 20, 0, 0, 20, 0, 0]


class State(unittest.TestCase):
    def test_at_first(self):
        self.assertEqual(run(state()), [AT_FIRST])

    def test_lives(self):
        self.assertEqual(last(life(0, 7), state()), [0, 0, 0, 7, 0, 0, 20, 0, 0])
        self.assertEqual(last(life(1, MOST), state()), [0, 0, 0, 20, 0, 0, MOST, 0, 0])

    def test_the_side_to_move(self):
        self.assertEqual(last(mover(1), state()), [0, 0, 1, 20, 0, 0, 20, 0, 0])
        self.assertEqual(last(mover(1), mover(0), state()), AT_FIRST)

    def test_beings_of_both_sides_in_order(self):
        self.assertEqual(last(being(1, 3, 4), being(0, 5, 6), being(1, 0, MOST), being(0, MOST, 1), state()),
                         [0, 0, 0, 20, 2, 2, 5, 6, 0, 0, 4, MOST, 1, 0, 0, 0,
                          20, 2, 1, 3, 4, 0, 0, 3, 0, MOST, 0, 0, 0])

    def test_the_sum_over_the_keys(self):
        for keys, wanted in (((), 0), ((0,), 1), ((1,), 2), ((2,), 4), ((3,), 8), ((4,), 16), ((0, 1, 2, 3, 4), 31),
                             ((4, 0), 17), ((3, 3), 8), ((2, 1, 2, 1), 6), ((4,) * 100, 16)):
            self.assertEqual(last(being(0, 1, 1, *keys), state()), [0, 0, 0, 20, 1, 1, 1, 1, wanted, 0, 0, 20, 0, 0])

    def test_bolts_of_both_sides_in_order(self):
        self.assertEqual(last(bolt(1, 4), bolt(0, 3), bolt(1, MOST), bolt(0, 1), bolt(0, 2), state()),
                         [0, 0, 0, 20, 0, 3, 3, 1, 2, 20, 0, 2, 4, MOST])

    def test_all_together_with_side_1_to_move(self):
        self.assertEqual(last(life(0, 8), being(0, 1, 2, SOAR), bolt(0, 6), life(1, 9), being(1, 3, 4, CRUSH),
                              bolt(1, 7), mover(1), state()),
                         [0, 0, 1, 8, 1, 1, 1, 2, 1, 0, 1, 6, 9, 1, 2, 3, 4, 16, 0, 1, 7])

    def test_beings_removed(self):
        self.assertEqual(last(being(0, 1, 1), being(0, 2, 2), being(0, 3, 3), remove(2), state()),
                         [0, 0, 0, 20, 2, 1, 1, 1, 0, 0, 3, 3, 3, 0, 0, 0, 20, 0, 0])

    def test_it_tells_one_thing_twice(self):
        self.assertEqual(run(state(), state()), [AT_FIRST, AT_FIRST])

    def test_with_too_many_ways(self):
        start = crowd((4, 3), (4, 3))
        self.assertEqual(len(last(*start, state())), 3 + 2 * (2 + 4 * 5 + 1 + 3))

    def test_refused_calls_change_nothing(self):
        start = [being(0, 1, 1)] * 4 + [bolt(1, 2)] * 3
        refused = [life(2, 1), life(0, 0), being(0, 1, 1), being(1, -1, 1), being(1, 1, 1, 5), remove(5), bolt(1, 1),
                   bolt(0, 0), mover(2), win(0, 7), least(2, 1), choice(16), blocks(-1), block(0, 1), play(0, 1),
                   undo()]
        given = run(*start, state(), *refused, state())[7:]
        self.assertTrue(all(len(one) == 1 and one[0] < 0 for one in given[1:-1]))
        self.assertEqual(given[0], given[-1])


class Play(unittest.TestCase):
    def after(self, *calls):
        """The state behind the calls, the last of which is a half-turn that goes on."""
        given = run(*calls, state())
        self.assertEqual(given[-2], [0, 0])
        return given[-1]

    def test_with_nothing(self):
        self.assertEqual(run(play(0, 0), state(), play(0, 0), state()),
                         [[0, 0], [0, 0, 1, 20, 0, 0, 20, 0, 0], [0, 0], AT_FIRST])

    def test_an_attack_that_is_not_blocked(self):
        start = [being(0, 3, 1), being(0, 4, 1), being(1, 5, 5)]
        self.assertEqual(self.after(*start, play(2, 0)),
                         [0, 0, 1, 20, 2, 1, 3, 1, 0, 1, 2, 4, 1, 0, 0, 0, 17, 1, 3, 5, 5, 0, 0, 0])
        self.assertEqual(self.after(*start, play(3, 0)),
                         [0, 0, 1, 20, 2, 1, 3, 1, 0, 1, 2, 4, 1, 0, 1, 0, 13, 1, 3, 5, 5, 0, 0, 0])

    def test_nobody_attacks(self):
        self.assertEqual(self.after(being(0, 3, 1), bolt(0, 2), play(0, 0)),
                         [0, 0, 1, 20, 1, 1, 3, 1, 0, 0, 1, 2, 20, 0, 0])

    def test_of_side_1(self):
        start = [being(0, 1, 1), being(1, 3, 1), bolt(1, 2), bolt(1, 4), mover(1)]
        # The second bolt at the side, and the attack.
        self.assertEqual(self.after(*start, play(3, 0)),
                         [0, 0, 0, 13, 1, 1, 1, 1, 0, 0, 0, 20, 1, 2, 3, 1, 0, 1, 1, 2])

    def test_bolts_thrown_are_gone(self):
        start = [bolt(0, 1), bolt(0, 2), bolt(0, 4)]
        for place, points, staying in ((0, 20, [1, 2, 4]), (1, 16, [1, 2]), (2, 18, [1, 4]), (4, 19, [2, 4]),
                                       (5, 15, [2]), (7, 13, [])):
            self.assertEqual(self.after(*start, play(place, 0)),
                             [0, 0, 1, 20, 0, len(staying), *staying, points, 0, 0])

    def test_beings_gone_by_bolts(self):
        start = [bolt(0, 2), bolt(0, 3), being(1, 1, 4), being(1, 1, 5), being(1, 1, 3)]
        # Both at the first, both at the second, one each at the second and the third.
        self.assertEqual(self.after(*start, play(2 * 5 + 2, 0)),
                         [0, 0, 1, 20, 0, 0, 20, 2, 2, 1, 5, 0, 0, 3, 1, 3, 0, 0, 0])
        self.assertEqual(self.after(*start, play(3 * 5 + 3, 0)),
                         [0, 0, 1, 20, 0, 0, 20, 2, 1, 1, 4, 0, 0, 3, 1, 3, 0, 0, 0])
        self.assertEqual(self.after(*start, play(3 * 5 + 4, 0)),
                         [0, 0, 1, 20, 0, 0, 20, 2, 1, 1, 4, 0, 0, 2, 1, 5, 0, 0, 0])

    def test_a_block_by_which_both_are_gone(self):
        self.assertEqual(self.after(being(0, 2, 3), being(1, 3, 2), play(1, 1)), [0, 0, 1, 20, 0, 0, 20, 0, 0])

    def test_a_block_by_which_none_is_gone(self):
        self.assertEqual(self.after(being(0, 2, 4), being(1, 3, 3), play(1, 1)),
                         [0, 0, 1, 20, 1, 1, 2, 4, 0, 1, 0, 20, 1, 2, 3, 3, 0, 0, 0])

    def test_damage_is_forgotten(self):
        start = [being(0, 2, 4), being(1, 3, 3)]
        # Each is struck once more; both blows together would be enough.
        self.assertEqual(self.after(*start, play(1, 1), play(0, 0), play(1, 1)),
                         [0, 0, 1, 20, 1, 1, 2, 4, 0, 1, 0, 20, 1, 2, 3, 3, 0, 0, 0])

    def test_all_blockers_deal_and_are_dealt_in_order(self):
        start = [being(0, 5, 6), being(1, 2, 2), being(1, 2, 3), being(1, 1, 1)]
        # Power 5 is enough for the first two, none is left for the third; 2 + 2 + 1 are not enough for it.
        self.assertEqual(self.after(*start, play(1, 7)),
                         [0, 0, 1, 20, 1, 1, 5, 6, 0, 1, 0, 20, 1, 4, 1, 1, 0, 0, 0])
        # Only the first and the third block: 2 and 1, and what is left goes to none else.
        self.assertEqual(self.after(*start, play(1, 5)),
                         [0, 0, 1, 20, 1, 1, 5, 6, 0, 1, 0, 20, 1, 3, 2, 3, 0, 0, 0])

    def test_just_enough_for_an_attacker(self):
        start = [being(0, 0, 5), being(1, 2, 9), being(1, 3, 9)]
        self.assertEqual(self.after(*start, play(1, 3)), [0, 0, 1, 20, 0, 0, 20, 2, 2, 2, 9, 0, 0, 3, 3, 9, 0, 0, 0])

    def test_bolts_and_blows_together(self):
        start = [being(0, 2, 1), bolt(0, 3), being(1, 0, 5), being(1, 0, 6)]
        self.assertEqual(self.after(*start, play(2 * 2 + 1, 2)),
                         [0, 0, 1, 20, 1, 1, 2, 1, 0, 1, 0, 20, 1, 3, 0, 6, 0, 0, 0])
        self.assertEqual(self.after(*start, play(3 * 2 + 1, 1)),
                         [0, 0, 1, 20, 1, 1, 2, 1, 0, 1, 0, 20, 2, 2, 0, 5, 0, 0, 3, 0, 6, 0, 0, 0])

    def test_crush(self):
        start = [being(0, 9, 1, CRUSH), being(1, 0, 2), being(1, 0, 3)]
        for j, points, staying in ((0, 11, [2, 2, 0, 2, 0, 0, 3, 0, 3, 0, 0]), (1, 14, [1, 2, 0, 2, 0, 0]),
                                   (2, 13, [1, 3, 0, 3, 0, 0]), (3, 16, [0])):
            self.assertEqual(self.after(*start, play(1, j)),
                             [0, 0, 1, 20, 1, 1, 9, 1, 16, 1, 0, points, *staying, 0])

    def test_venom_of_an_attacker(self):
        for power, gone in ((0, 0), (1, 1), (2, 2), (3, 3), (9, 3)):
            start = [being(0, power, 1, VENOM)] + [being(1, 0, 5)] * 3
            staying = sum([[number, 0, 5, 0, 0] for number in range(2 + gone, 5)], [])
            self.assertEqual(self.after(*start, play(1, 7)),
                             [0, 0, 1, 20, 1, 1, power, 1, 8, 1, 0, 20, 3 - gone, *staying, 0])

    def test_venom_and_crush(self):
        start = [being(0, 9, 1, VENOM, CRUSH), being(1, 0, 5), being(1, 0, 5)]
        self.assertEqual(self.after(*start, play(1, 3)), [0, 0, 1, 20, 1, 1, 9, 1, 24, 1, 0, 13, 0, 0])

    def test_venom_of_a_blocker(self):
        for power, gone in ((0, False), (1, True)):
            start = [being(0, 0, 5), being(1, power, 5, VENOM)]
            mine = [0] if gone else [1, 1, 0, 5, 0, 1]
            self.assertEqual(self.after(*start, play(1, 1)), [0, 0, 1, 20, *mine, 0, 20, 1, 2, power, 5, 8, 0, 0])

    def test_several_attackers(self):
        # 4 blocks the second and 5 the first: the eighth way, since just one may not block the third.
        start = [being(0, 1, 1), being(0, 2, 2), being(0, 4, 3, DREAD), being(1, 1, 1, REACH), being(1, 1, 2)]
        self.assertEqual(last(*start, block(7, 7)), [0, 4, 2, 5, 1])
        self.assertEqual(self.after(*start, play(7, 7)),
                         [0, 0, 1, 20, 2, 2, 2, 2, 0, 1, 3, 4, 3, 4, 1, 0, 16, 1, 5, 1, 2, 0, 0, 0])

    def test_bent_and_straight(self):
        start = [being(0, 1, 9), being(0, 1, 9), being(1, 1, 9)]
        first = self.after(*start, play(2, 0))
        self.assertEqual([first[9], first[14], first[-2]], [1, 0, 0])
        # Side 1 attacks: its being is bent, those of side 0 become straight.
        second = self.after(*start, play(2, 0), play(1, 0))
        self.assertEqual([second[9], second[14], second[-2]], [0, 0, 1])
        third = self.after(*start, play(2, 0), play(1, 0), play(1, 0))
        self.assertEqual([third[9], third[14], third[-2]], [0, 1, 0])

    def test_mover_makes_its_beings_straight_and_no_others(self):
        start = [being(0, 1, 9), being(1, 1, 9), play(1, 0)]
        self.assertEqual(last(*start, mover(1), state())[9], 1)
        self.assertEqual(last(*start, mover(1), state())[2], 1)
        self.assertEqual(last(*start, mover(0), state())[9], 0)
        start += [play(1, 0)]
        self.assertEqual(last(*start, mover(0), state())[-2], 1)
        self.assertEqual(last(*start, mover(1), state())[-2], 0)

    def test_other_calls_leave_bent_beings_bent(self):
        start = [being(0, 1, 9), being(0, 1, 9), being(1, 1, 9), bolt(0, 1), play(1, 0)]
        bent = [2, 1, 9, 0, 1]
        for call in (life(0, 5), life(1, 5), being(0, 1, 1), being(1, 1, 1), remove(1), remove(3), bolt(0, 1),
                     bolt(1, 1)):
            told = last(*start, call, state())
            self.assertIn(bent, [told[at:at + 5] for at in range(len(told))], call)

    def test_a_new_being_is_straight_beside_bent_ones(self):
        start = [being(0, 1, 9), play(1, 0), being(0, 2, 2)]
        self.assertEqual(last(*start, state()), [0, 0, 1, 20, 2, 1, 1, 9, 0, 1, 2, 2, 2, 0, 0, 0, 19, 0, 0])

    def test_numbers_stay_and_are_never_given_twice(self):
        start = [being(0, 2, 2), being(1, 2, 2), being(1, 1, 1), play(1, 2)]
        self.assertEqual(last(*start, state()), [0, 0, 1, 20, 0, 0, 20, 1, 3, 1, 1, 0, 0, 0])
        self.assertEqual(run(*start, being(0, 1, 1), remove(1), remove(2), remove(3), being(1, 1, 1))[4:],
                         [[0, 4], [-5], [-5], [0], [0, 5]])

    def test_no_such_choice_or_way(self):
        start = [being(0, 1, 1), being(1, 1, 1)]
        for i in (2, 3, -1, MOST, -MOST):
            self.assertEqual(run(*start, *[play(i, j) for j in (0, 1, -1, MOST, -MOST)])[2:], [[-5]] * 5)
        for j in (2, -1, MOST, -MOST):
            self.assertEqual(run(*start, play(1, j), play(0, j))[2:], [[-6]] * 2)
        self.assertEqual(run(*start, play(0, 1), state(), undo())[2:],
                         [[-6], last(*start, state()), [-7]])

    def test_large_numbers(self):
        start = [life(0, MOST), life(1, MOST), being(0, MOST, MOST, CRUSH), being(1, MOST - 1, 1), bolt(0, MOST - 1)]
        self.assertEqual(self.after(*start, play(1, 1)),
                         [0, 0, 1, MOST, 1, 1, MOST, MOST, 16, 1, 1, MOST - 1, 1, 0, 0])
        self.assertEqual(self.after(*start, play(2, 0)),
                         [0, 0, 1, MOST, 1, 1, MOST, MOST, 16, 0, 0, 1, 1, 2, MOST - 1, 1, 0, 0, 0])
        self.assertEqual(run(*start, play(3, 0))[-1], [0, 1])


class WonBy(unittest.TestCase):
    def wins(self, start, i, j, p):
        """The half-turn wins for side p, and then only who has won changes."""
        before, given, behind = run(*start, state(), play(i, j), state())[len(start):]
        self.assertEqual((before[1], given, behind[1], behind[2]), (0, [0, 1], p + 1, p))
        self.assertEqual(before[:1] + before[2:], behind[:1] + behind[2:])

    def test_bolts(self):
        start = [life(1, 3), bolt(0, 1), bolt(0, 3), being(0, 1, 1), being(1, 1, 1)]
        self.wins(start, 2, 0, 0)
        self.wins(start, 3, 0, 0)
        self.wins(start, (1 * 3 + 1) * 2, 0, 0)

    def test_bolts_while_others_do_away_with_a_being(self):
        start = [life(1, 3), bolt(0, 1), bolt(0, 3), being(0, 1, 1), being(1, 1, 1)]
        self.wins(start, (2 * 3 + 1) * 2 + 1, 0, 0)
        self.assertEqual(last(*start, play((2 * 3 + 1) * 2 + 1, 1)), [-6])

    def test_blows(self):
        start = [life(1, 3), being(0, 3, 1), being(0, 1, 1), being(1, 1, 1)]
        self.wins(start, 2, 0, 0)
        self.assertEqual(last(*start, block(3, 2)), [0, 3, 2])
        self.wins(start, 3, 2, 0)
        self.assertEqual(run(*start, play(3, 1), undo(), play(2, 1), undo(), play(1, 0))[4:],
                         [[0, 0], [0], [0, 0], [0], [0, 0]])

    def test_blows_and_bolts_together(self):
        start = [life(1, 3), being(0, 2, 1), bolt(0, 1)]
        self.wins(start, 3, 0, 0)
        self.assertEqual(run(*start, life(1, 4), play(3, 0))[-1], [0, 0])

    def test_crush(self):
        start = [life(1, 3), being(0, 5, 1, CRUSH), being(1, 9, 2)]
        self.wins(start, 1, 1, 0)
        self.assertEqual(run(*start, life(1, 4), play(1, 1))[-1], [0, 0])

    def test_side_1(self):
        self.wins([life(0, 3), bolt(1, 3), being(0, 1, 1), mover(1)], 1, 0, 1)
        self.wins([life(0, 3), being(1, 3, 1), being(0, 1, 1), mover(1)], 1, 0, 1)

    def test_behind_half_turns(self):
        start = [life(1, 4), being(0, 2, 1), being(1, 5, 1), bolt(1, 1)]
        self.wins(start + [play(1, 0), play(1, 0)], 1, 0, 0)
        # The bent being of side 0 stays bent where side 1 wins.
        start = [life(0, 4), being(0, 2, 1), being(1, 5, 1), bolt(1, 1), play(1, 0)]
        self.assertEqual(last(*start, play(1, 0), state()),
                         [0, 2, 1, 4, 1, 1, 2, 1, 0, 1, 0, 18, 1, 2, 5, 1, 0, 0, 1, 1])


class Won(unittest.TestCase):
    # The first side has all it may have, and two half-turns have too many ways.
    start = [life(1, 1), *[being(0, 1, 1)] * 4, *[bolt(0, 1)] * 3, being(1, 1, 1), being(1, 1, 1), play(1, 0)]

    def behind(self, *calls):
        return run(*self.start, *calls)[len(self.start):]

    def test_it_is_won(self):
        self.assertEqual(run(*self.start)[-1], [0, 1])
        self.assertEqual(self.behind(state())[0][:3], [0, 1, 0])

    def test_all_that_name_it_answer_it(self):
        calls = [life(0, 1), life(1, MOST), being(0, 1, 1), being(1, 1, 1, 0, 4), remove(1), bolt(0, 1), bolt(1, 1),
                 mover(0), mover(1), win(0, 1), hold(0, 1), proof(0, 1), check(0, 1, 1), check(0, 1), least(0, 1),
                 ways(), choice(0), blocks(0), block(0, 0), play(0, 0), play(1, 0)]
        for call in calls:
            self.assertEqual(self.behind(call), [[-2]], call)
        self.assertEqual(self.behind(*calls), [[-2]] * len(calls))

    def test_a_wrong_number_is_told_ahead_of_it(self):
        calls = [life(2, 1), life(-1, 1), life(0, 0), life(0, -MOST), being(2, 1, 1), being(0, -1, 1), being(0, 1, 0),
                 being(0, 1, 1, 5), being(0, 1, 1, -1), being(1, 1, 1, 0, MOST), bolt(2, 1), bolt(0, 0), bolt(1, -1),
                 mover(2), mover(-1)]
        for call in (win, hold, proof, check, least):
            calls += [call(2, 1), call(-1, 1), call(0, 0), call(1, 7), call(0, MOST)]
        self.assertEqual(self.behind(*calls), [[-1]] * len(calls))

    def test_it_is_told_ahead_of_all_others(self):
        self.assertEqual(self.behind(undo(), win(0, 2), being(0, 1, 1), bolt(0, 1)), [[0], [-3], [-4], [-4]])
        calls = [call(q, k) for call in (win, hold, proof, check, least) for q in (0, 1) for k in (2, 6)]
        calls += [being(0, 1, 1), bolt(0, 1), remove(0), remove(7), remove(-MOST), remove(MOST)]
        for i in (-1, MOST, -MOST, 4 ** 3 * 16):
            calls += [choice(i), blocks(i), block(i, 0), block(i, -1), play(i, 0), play(i, -1)]
        for j in (-1, 1, MOST, -MOST):
            calls += [block(0, j), play(0, j)]
        self.assertEqual(self.behind(*calls), [[-2]] * len(calls))

    def test_what_is_refused_changes_nothing(self):
        calls = [life(0, 1), being(1, 1, 1), remove(1), bolt(1, 1), mover(1), play(0, 0), win(0, 1)]
        given = self.behind(state(), *calls, state(), undo(), undo())
        self.assertEqual(given[0], given[-3])
        self.assertEqual(given[-2:], [[0], [-7]])

    def test_undo_takes_it_back(self):
        given = run(*self.start[:-1], state(), win(0, 1), play(1, 0), win(0, 1), undo(), state(), win(0, 1),
                    least(0, 1), play(0, 0), undo(), life(1, 2), being(1, 1, 1))[len(self.start) - 1:]
        self.assertEqual(given[1:5], [[1], [0, 1], [-2], [0]])
        self.assertEqual(given[5], given[0])
        self.assertEqual(given[6:], [[1], [1], [0, 0], [0], [0], [0, 7]])

    def test_of_side_1(self):
        start = [life(0, 1), bolt(1, 1), play(0, 0), play(1, 0)]
        given = run(*start, state(), ways(), life(0, 5), undo(), state(), undo(), state(), undo())[4:]
        self.assertEqual(given, [[0, 2, 1, 1, 0, 0, 20, 0, 1, 1], [-2], [-2], [0],
                                 [0, 0, 1, 1, 0, 0, 20, 0, 1, 1], [0], [0, 0, 0, 1, 0, 0, 20, 0, 1, 1], [-7]])


class Undo(unittest.TestCase):
    line = [life(1, 9), being(0, 2, 3), being(0, 1, 1), bolt(0, 1), being(1, 1, 2), bolt(1, 3)]

    def test_none_was_played(self):
        self.assertEqual(run(undo(), undo(), state()), [[-7], [-7], AT_FIRST])
        self.assertEqual(run(*self.line, undo())[-1], [-7])

    def test_half_turn_by_half_turn(self):
        plays = [play(7, 0), play(1, 0), play(2, 0), play(7, 0), play(1, 0)]
        states = run(*self.line, state(), *sum([[one, state()] for one in plays], []))[len(self.line)::2]
        self.assertEqual(len({tuple(one) for one in states}), 6)
        given = run(*self.line, *plays, *[undo(), state()] * 5, undo(), undo(), state())[len(self.line):]
        self.assertEqual(given[:5], [[0, 0]] * 5)
        self.assertEqual(given[5:15:2], [[0]] * 5)
        self.assertEqual(given[6:15:2], states[4::-1])
        self.assertEqual(given[15:], [[-7], [-7], states[0]])

    def test_what_was_gone_and_bent_is_there_again(self):
        start = [being(0, 2, 2), bolt(0, 3), bolt(0, 1), being(1, 2, 3), being(1, 2, 2)]
        start += [play(0, 0), play(3, 0), play(17, 0)]
        before = [0, 0, 0, 16, 1, 1, 2, 2, 0, 0, 2, 3, 1, 20, 2, 2, 2, 3, 0, 1, 3, 2, 2, 0, 1, 0]
        self.assertEqual(run(*start[:-1], state())[-1], before)
        self.assertEqual(run(*start, state())[-1],
                         [0, 0, 1, 16, 1, 1, 2, 2, 0, 1, 1, 1, 18, 1, 3, 2, 2, 0, 0, 0])
        self.assertEqual(run(*start, undo(), state())[-2:], [[0], before])

    def test_play_and_undo_by_turns(self):
        given = run(play(0, 0), undo(), undo(), play(0, 0), play(0, 0), undo(), play(0, 0), undo(), undo(), undo())
        self.assertEqual(given, [[0, 0], [0], [-7], [0, 0], [0, 0], [0], [0, 0], [0], [0], [-7]])

    def test_edits_that_answer_0_forget_what_was_played(self):
        start = self.line + [play(0, 0), play(0, 0)]
        for call in (life(0, 20), life(1, 9), being(0, 1, 1), being(1, 1, 1), remove(1), remove(3), bolt(0, 1),
                     bolt(1, 1), mover(0), mover(1)):
            given = run(*start, call, state(), undo(), state(), play(0, 0), undo(), undo(), state())[len(start):]
            self.assertEqual(given[0][0], 0)
            self.assertEqual([given[2], given[4], given[5], given[6]], [[-7], [0, 0], [0], [-7]], call)
            self.assertEqual([given[1], given[1]], [given[3], given[7]])

    def test_edits_that_are_refused_do_not(self):
        start = [being(0, 1, 1)] * 4 + [bolt(1, 1)] * 3
        before = last(*start, state())
        start += [play(0, 0), play(0, 0)]
        for call, refusal in ((life(0, 0), -1), (life(2, 1), -1), (being(1, 1, 0), -1), (being(1, 1, 1, 5), -1),
                              (being(0, 1, 1), -4), (remove(5), -5), (remove(-1), -5), (bolt(0, 0), -1),
                              (bolt(1, 1), -4), (mover(2), -1)):
            given = run(*start, call, undo(), undo(), state(), undo())[len(start):]
            self.assertEqual(given, [[refusal], [0], [0], before, [-7]], call)

    def test_other_calls_do_not(self):
        start = self.line + [play(0, 0)]
        for call in (win(0, 1), hold(1, 2), proof(0, 1), check(0, 1, 0), least(0, 2), ways(), choice(0), choice(99),
                     blocks(0), block(0, 0), block(0, 9), play(99, 0), state(), win(2, 1), least(0, 6)):
            self.assertEqual(run(*start, call, undo(), state(), undo())[-3:],
                             [[0], last(*self.line, state()), [-7]], call)

    def test_forced_wins_are_those_of_the_position_now(self):
        start = [life(1, 5), bolt(0, 5)]
        given = run(*start, win(0, 1), proof(0, 3), play(0, 0), win(0, 1), proof(0, 3), undo(), win(0, 1), proof(0, 3),
                    play(1, 0), undo(), hold(0, 1), least(0, 6))[2:]
        self.assertEqual(given, [[1], [1, 0, 0, 1], [0, 0], [0], [1, 0, 1], [0], [1], [1, 0, 0, 1],
                                 [0, 1], [0], [0], [1]])

    def test_numbers_are_never_given_twice(self):
        start = [being(0, 2, 2), being(1, 2, 2), play(1, 1)]
        self.assertEqual(run(*start, undo(), being(0, 1, 1), play(0, 0), undo(), remove(3), being(0, 1, 1))[3:],
                         [[0], [0, 3], [0, 0], [0], [0], [0, 4]])
        self.assertEqual(run(*start, being(1, 1, 1), undo(), remove(2), remove(1), being(0, 1, 1))[3:],
                         [[0, 3], [-7], [-5], [-5], [0, 4]])

    def test_a_removed_being_does_not_come_back(self):
        self.assertEqual(run(being(0, 1, 1), play(1, 0), remove(1), undo(), state()),
                         [[0, 1], [0, 0], [0], [-7], [0, 0, 1, 20, 0, 0, 19, 0, 0]])

    def test_many(self):
        start = [being(0, 0, 1), being(1, 0, 1)]
        plays = [play(n % 2, 0) for n in range(190)]
        given = run(*start, state(), *plays, *[undo()] * 191, state())
        self.assertEqual(given[3:193], [[0, 0]] * 190)
        self.assertEqual(given[193:384], [[0]] * 190 + [[-7]])
        self.assertEqual(given[2], given[384])


if __name__ == "__main__":
    unittest.main()
