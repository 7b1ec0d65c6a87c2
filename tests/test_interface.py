"""The interface: one list in, one list out, nothing changed, nothing kept, nothing printed."""

import contextlib
import inspect
import io
import unittest

from helper import being, bolt, check, hold, life, mover, proof, remove, run, win
from smallduels.duel import answers

LINE = [0, 1, 5, 1, 0, 5, 1, 2, 0, 4, 5, 0, 1, 6, 0, 1, 7, 0, 3, 8, 0, 1, 1, 1, 2, 9, 3, 0, 0, 3, 0, 4, 4, 1, 5, 1, 2]
GIVEN = [1, 0, 2, 0, 1, 1, 1, 1, 0, 4, 1, 0, 0, 1, 1, 1, 1, -5, 1, -1, 1, 0, 1, 0, 1, 0]


class Interface(unittest.TestCase):
    def test_counts_and_answers_in_order(self):
        self.assertEqual(answers(LINE), GIVEN)

    def test_one_call(self):
        self.assertEqual(answers([0, 0, 1]), [1, 0])
        self.assertEqual(answers([1, 0, 1, 1, 0]), [2, 0, 1])
        self.assertEqual(answers([7, 0, 1]), [1, 0])
        self.assertEqual(answers([8, 0, 1, 0]), [1, 0])
        self.assertEqual(answers([2, 1]), [1, -5])

    def test_its_one_argument_is_called_calls(self):
        self.assertEqual(list(inspect.signature(answers).parameters), ["calls"])
        self.assertEqual(answers(calls=[4, 1]), [1, 0])

    def test_the_list_is_as_it_was(self):
        line = list(LINE)
        answers(line)
        self.assertEqual(line, LINE)

    def test_what_is_given_back_is_a_new_list_of_whole_numbers(self):
        line = list(LINE)
        given = answers(line)
        self.assertIs(type(given), list)
        self.assertIsNot(given, line)
        self.assertEqual({type(number) for number in given}, {int})

    def test_a_second_time_gives_the_same(self):
        first = answers(LINE)
        answers([0, 1, 1, 3, 0, 9, 1, 0, 1, 1, 0, 4, 1])
        self.assertEqual(answers(LINE), first)
        first.append(7)
        self.assertEqual(answers(LINE), GIVEN)

    def test_a_line_begins_as_at_first(self):
        self.assertEqual(run(being(0, 20, 1), win(0, 1)), [[0, 1], [1]])
        self.assertEqual(run(being(1, 20, 1), win(0, 1), win(1, 1)), [[0, 1], [0], [0]])

    def test_nothing_is_printed(self):
        out = io.StringIO()
        with contextlib.redirect_stdout(out), contextlib.redirect_stderr(out):
            answers(LINE)
        self.assertEqual(out.getvalue(), "")

    def test_400_calls(self):
        calls = [life(0, 1 + n) for n in range(100)] + [mover(n % 2) for n in range(100)]
        calls += [win(0, 6), hold(1, 6)] * 50 + [remove(n) for n in range(100)]
        self.assertEqual(run(*calls), [[0]] * 200 + [[0], [1]] * 50 + [[-5]] * 100)

    def test_as_long_as_it_may_be(self):
        self.assertEqual(run(*[being(0, 1, 1, *[4] * 100)] * 5, check(0, 1, *[0] * 30000), bolt(0, 1), proof(0, 2)),
                         [[0, 1], [0, 2], [0, 3], [0, 4], [-4], [0], [0], [0]])

    def test_a_row_behind_a_refused_call_is_passed_over(self):
        self.assertEqual(run(being(2, 1, 1, 0, 1, 2), check(0, 7, 5, 0, 1), check(0, 1, 3, 0, 9), mover(1)),
                         [[-1], [-1], [0], [0]])


if __name__ == "__main__":
    unittest.main()
