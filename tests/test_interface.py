"""The interface: one list in, one list out, nothing changed, nothing kept, nothing printed."""

import contextlib
import inspect
import io
import unittest

from helper import (
    being, block, bolt, check, choice, hold, least, life, mover, play, proof, remove, run, state, undo, ways, win)
from smallduels.duel import answers

LINE = [0, 1, 5, 1, 0, 5, 1, 2, 0, 4, 5, 0, 1, 6, 0, 1, 7, 0, 3, 8, 0, 1, 1, 1, 2, 9, 3, 0, 0, 3, 0, 4, 4, 1, 5, 1, 2]
GIVEN = [1, 0, 2, 0, 1, 1, 1, 1, 0, 4, 1, 0, 0, 1, 1, 1, 1, -5, 1, -1, 1, 0, 1, 0, 1, 0]
# Life 3 for side 1, a being each, a bolt of 3: least, ways, choice, blocks, block, play, state, undo, a win, state.
PLAYED = [0, 1, 3, 1, 0, 2, 2, 0, 1, 1, 1, 1, 1, 4, 3, 0, 3, 9, 0, 2, 10, 11, 5, 12, 1, 13, 1, 1, 14, 1, 1, 16, 15, 15,
          14, 2, 0, 10, 16, 15]
PLAYED_GIVEN = [1, 0, 2, 0, 1, 2, 0, 2, 1, 0, 1, 1, 3, 0, 6, 7, 4, 0, 1, 3, 1, 2, 0, 2, 3, 0, 2, 1, 2, 0, 0,
                15, 0, 0, 1, 20, 1, 1, 2, 2, 0, 1, 1, 3, 3, 0, 0, 1, 0, 1, -7, 2, 0, 1, 1, -2,
                20, 0, 1, 0, 20, 1, 1, 2, 2, 0, 0, 1, 3, 3, 1, 2, 1, 1, 16, 0, 0, 1, 0]


class Unchanging(list):
    """A list that may be read alone."""

    def refuse(self, *arguments):
        raise AssertionError("changed")

    append = extend = insert = remove = pop = clear = sort = reverse = refuse
    __setitem__ = __delitem__ = __iadd__ = __imul__ = refuse


class Interface(unittest.TestCase):
    def test_counts_and_answers_in_order(self):
        self.assertEqual(answers(LINE), GIVEN)
        self.assertEqual(answers(PLAYED), PLAYED_GIVEN)

    def test_one_call(self):
        self.assertEqual(answers([0, 0, 1]), [1, 0])
        self.assertEqual(answers([1, 0, 1, 1, 0]), [2, 0, 1])
        self.assertEqual(answers([7, 0, 1]), [1, 0])
        self.assertEqual(answers([8, 0, 1, 0]), [1, 0])
        self.assertEqual(answers([2, 1]), [1, -5])
        self.assertEqual(answers([9, 1, 6]), [1, 0])
        self.assertEqual(answers([10]), [3, 0, 1, 1])
        self.assertEqual(answers([11, 0]), [2, 0, 0])
        self.assertEqual(answers([12, 0]), [2, 0, 1])
        self.assertEqual(answers([13, 0, 0]), [1, 0])
        self.assertEqual(answers([14, 0, 0]), [2, 0, 0])
        self.assertEqual(answers([15]), [1, -7])
        self.assertEqual(answers([16]), [9, 0, 0, 0, 20, 0, 0, 20, 0, 0])

    def test_its_one_argument_is_called_calls(self):
        self.assertEqual(list(inspect.signature(answers).parameters), ["calls"])
        self.assertEqual(answers(calls=[4, 1]), [1, 0])

    def test_the_list_is_as_it_was(self):
        for wanted in (LINE, PLAYED):
            line = list(wanted)
            answers(line)
            self.assertEqual(line, wanted)

    def test_the_list_is_not_changed_for_a_while_either(self):
        self.assertEqual(answers(Unchanging(LINE)), GIVEN)
        self.assertEqual(answers(Unchanging(PLAYED)), PLAYED_GIVEN)

    def test_what_is_given_back_is_a_new_list_of_whole_numbers(self):
        for wanted in (LINE, PLAYED):
            line = list(wanted)
            given = answers(line)
            self.assertIs(type(given), list)
            self.assertIsNot(given, line)
            self.assertEqual({type(number) for number in given}, {int})

    def test_a_second_time_gives_the_same(self):
        first = answers(LINE)
        answers([0, 1, 1, 3, 0, 9, 1, 0, 1, 1, 0, 4, 1])
        self.assertEqual(answers(LINE), first)
        first.append(7)
        self.assertEqual(answers(LINE), GIVEN)
        self.assertEqual(answers(PLAYED), PLAYED_GIVEN)

    def test_nothing_is_kept_of_what_was_played_or_won(self):
        for line in ([play(0, 0)], [bolt(0, 20), play(1, 0)], [being(0, 1, 1), play(1, 0), play(0, 0)]):
            run(*line)
            self.assertEqual(run(undo(), state(), being(1, 1, 1)), [[-7], [0, 0, 0, 20, 0, 0, 20, 0, 0], [0, 1]])

    def test_a_line_begins_as_at_first(self):
        self.assertEqual(run(being(0, 20, 1), win(0, 1)), [[0, 1], [1]])
        self.assertEqual(run(being(1, 20, 1), win(0, 1), win(1, 1)), [[0, 1], [0], [0]])

    def test_nothing_is_printed(self):
        out = io.StringIO()
        with contextlib.redirect_stdout(out), contextlib.redirect_stderr(out):
            answers(LINE)
            answers(PLAYED)
        self.assertEqual(out.getvalue(), "")

    def test_400_calls(self):
        calls = [life(0, 1 + n) for n in range(100)] + [mover(n % 2) for n in range(100)]
        calls += [win(0, 6), hold(1, 6)] * 50 + [remove(n) for n in range(100)]
        self.assertEqual(run(*calls), [[0]] * 200 + [[0], [1]] * 50 + [[-5]] * 100)

    def test_400_half_turns(self):
        start = [being(0, 0, 1), being(1, 0, 1)]
        given = run(*start, *[play(n % 2, 0) for n in range(397)], state())
        self.assertEqual(given[2:399], [[0, 0]] * 397)
        self.assertEqual(given[399], [0, 0, 1, 20, 1, 1, 0, 1, 0, 0, 0, 20, 1, 2, 0, 1, 0, 0, 0])

    def test_400_of_each_other_call(self):
        for call, wanted in ((least(0, 6), [0]), (ways(), [0, 1, 1]), (choice(0), [0, 0]), (block(0, 0), [0]),
                             (undo(), [-7]), (state(), [0, 0, 0, 20, 0, 0, 20, 0, 0])):
            self.assertEqual(run(*[call] * 400), [wanted] * 400)

    def test_as_long_as_it_may_be(self):
        self.assertEqual(run(*[being(0, 1, 1, *[4] * 100)] * 5, check(0, 1, *[0] * 30000), bolt(0, 1), proof(0, 2)),
                         [[0, 1], [0, 2], [0, 3], [0, 4], [-4], [0], [0], [0]])

    def test_a_row_behind_a_refused_call_is_passed_over(self):
        self.assertEqual(run(being(2, 1, 1, 0, 1, 2), check(0, 7, 5, 0, 1), check(0, 1, 3, 0, 9), mover(1)),
                         [[-1], [-1], [0], [0]])


if __name__ == "__main__":
    unittest.main()
