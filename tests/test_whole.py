"""What is promised over the whole program."""

import copy
import itertools
import random
import unittest

from oncenames.boxes import boxes, shows_boxes
from oncenames.errors import NoBlock, NoForm, NoName, NoStep, NoText, OnceError
from oncenames.forms import parted, run_form
from oncenames.ledback import led_back
from oncenames.looker import is_good
from oncenames.meets import joins_of, meet
from oncenames.programs import names_of, run
from oncenames.steps import step, steps, tidy
from oncenames.texts import read_form, read_program, show_form, show_program
from oncenames.wanted import want_way, wanted
from oncenames.ways import around, into, masters
from samples import (STOP, check_asking, choose, go, made_form, made_given, made_givens, made_program, name, number,
                     once, put, tell)

A0, A1 = once("a", 0), once("a", 1)
PROGRAM = (10, [([put("a", ("plus", name("a"), number(1))), tell(name("a"))], choose(name("a"), 0, 1)), ([], STOP)])
FORM = (10, [(0, [(A1, [(-1, name(A0)), (0, name(A1))])], [tell(name(A1))], choose(name(A1), 0, 1)), (1, [], [], STOP)])
BAD = (10, [(0, [], [tell(name(A1))], STOP)])
BOXED = (2, [(A0, 0), (A1, 1)], [A0, A1])
# Each function with what may be handed in, by the names of the arguments.
ASKED = [
    (run, {"program": PROGRAM, "given": {"a": 7}, "many": 9}),
    (names_of, {"program": PROGRAM}),
    (into, {"program": PROGRAM}),
    (masters, {"program": PROGRAM}),
    (around, {"program": PROGRAM, "a": 1, "b": 0}),
    (wanted, {"program": PROGRAM}),
    (want_way, {"program": PROGRAM, "block": 0, "name": "a"}),
    (joins_of, {"program": PROGRAM}),
    (meet, {"program": PROGRAM, "block": 0, "name": "a"}),
    (is_good, {"form": FORM}),
    (parted, {"program": PROGRAM}),
    (run_form, {"form": FORM, "given": {"a": 7}, "many": 9}),
    (steps, {"form": FORM}),
    (step, {"form": FORM, "one": ("one", A1)}),
    (tidy, {"form": FORM}),
    (boxes, {"form": FORM}),
    (shows_boxes, {"form": FORM, "told": BOXED}),
    (led_back, {"form": FORM}),
    (show_program, {"program": PROGRAM}),
    (show_form, {"form": FORM}),
    (read_program, {"text": "measure 10\nblock 0\nput a = a + 1\ntell a\nchoose a 0 1\nblock 1\nstop"}),
    (read_form, {"text": "measure 10\nblock 0\njoin a.1 = begin:a.0, 0:a.1\ntell a.1\nchoose a.1 0 1\nblock 1\nstop"}),
]
# Each refusal, with the function and what is handed in; where several reasons hold, the first is told.
REFUSED = [
    (NoBlock, around, (PROGRAM, 2, 9)), (NoBlock, around, (PROGRAM, 0, 2)), (NoBlock, around, (PROGRAM, -1, 0)),
    (NoBlock, want_way, (PROGRAM, 2, "q")), (NoName, want_way, (PROGRAM, 1, "q")),
    (NoBlock, meet, (PROGRAM, 2, "q")), (NoName, meet, (PROGRAM, 1, "q")),
    (NoForm, run_form, (BAD, {}, 1)), (NoForm, steps, (BAD,)), (NoForm, step, (BAD, ("no", 1))), (NoForm, tidy, (BAD,)),
    (NoStep, step, (FORM, ("idle", A1))), (NoStep, step, (FORM, ("no", 1))),
    (NoForm, boxes, (BAD,)), (NoForm, shows_boxes, (BAD, (0, [], []))), (NoForm, led_back, (BAD,)),
    (NoText, read_program, ("measure 10\nblock 0\ngo 1",)), (NoText, read_form, ("measure 1\nblock 0\nhalt",)),
    (NoForm, read_form, ("measure 1\nblock 0\nstop",)),
]


def joined(form):
    return sorted((row[0], which[0]) for row in form[1] for which, parts in row[1])


class Whole(unittest.TestCase):
    def check_telling(self, form, program, givens):
        """Looks that form and program tell the same, and so the program to which the form is led back."""
        back = led_back(form)
        for given in givens:
            for many in (0, 1, 13, 150):
                told, over = run(program, given, many)
                self.assertEqual(run_form(form, given, many), (told, over))
                twice, ended = run(back, given, 2 * many)
                self.assertEqual(twice[:len(told)], told)
                self.assertTrue(ended or not over)
                slow = run(back, given, many)[0]
                self.assertEqual(told[:len(slow)], slow)

    def test_from_programs_to_programs(self):
        for seed in range(60):
            rng = random.Random(seed)
            program = made_program(seed, 1 + seed % 12, names=1 + seed % 5, stops=seed % 3 > 0)
            givens = [{}, made_given(seed, program), made_given(seed + 1, program)]
            form = parted(program)
            self.assertEqual(joined(form), joins_of(program))
            for again in range(6):
                self.assertIs(is_good(form), True)
                self.check_telling(form, program, givens)
                told = boxes(form)
                self.assertIs(shows_boxes(form, told), True)
                self.assertEqual(read_form(show_form(form)), form)
                if steps(form):
                    form = step(form, rng.choice(steps(form)))
            self.check_telling(tidy(form), program, givens)

    def test_tidied_forms_take_no_more_once_names(self):
        for seed in range(40):
            form = made_form(seed)
            self.assertLessEqual(len(boxes(tidy(form))[1]), len(boxes(form)[1]))

    def test_led_back_and_parted_again_and_again(self):
        for seed in range(15):
            form = first = made_form(seed, 4, joins=3)
            for turn in (2, 4, 8):
                form = tidy(parted(led_back(form)))
                for given in made_givens(seed, first):
                    told, over = run_form(first, given, 20)
                    after, ended = run_form(form, given, 20 * turn)
                    self.assertEqual(after[:len(told)], told)
                    self.assertTrue(ended or not over)


class Arguments(unittest.TestCase):
    def test_by_their_names_in_any_order(self):
        for function, handed in ASKED:
            answer = function(*handed.values())
            for order in itertools.permutations(handed):
                self.assertEqual(function(**{each: handed[each] for each in order}), answer)

    def test_the_answers_are_the_askers_own(self):
        for function, handed in ASKED:
            check_asking(self, function, *handed.values())

    def test_nothing_asked_between_changes_an_answer(self):
        def ask_all():
            return [function(*copy.deepcopy(list(handed.values()))) for function, handed in ASKED]

        first = ask_all()
        for refusal, function, handed in REFUSED:
            self.assertRaises(refusal, function, *handed)
        for seed in range(5):
            tidy(made_form(seed))
            boxes(made_form(seed))
            led_back(made_form(seed))
        self.assertEqual(ask_all(), first)


class Refusals(unittest.TestCase):
    def test_each_in_its_order(self):
        for refusal, function, handed in REFUSED:
            kept = copy.deepcopy(handed)
            with self.assertRaises(OnceError) as caught:
                function(*handed)
            self.assertIs(type(caught.exception), refusal, (function, handed))
            self.assertIsInstance(caught.exception, ValueError)
            self.assertEqual(handed, kept)

    def test_again_the_same(self):
        for refusal, function, handed in REFUSED:
            for again in range(2):
                self.assertRaises(refusal, function, *handed)


if __name__ == "__main__":
    unittest.main()
