import copy
import itertools
import random
import time
import unittest

from oncenames.errors import NoForm, OnceError
from oncenames.forms import parted, run_form
from oncenames.ledback import led_back
from oncenames.looker import is_good
from oncenames.meets import joins_of, meet
from oncenames.programs import names_of, run
from oncenames.steps import step, steps, tidy
from oncenames.wanted import want_way, wanted
from oncenames.ways import around, into, masters
from samples import (OPS, STOP, check_asking, choose, go, made_form, made_givens, made_program, name, number, once,
                     one_row, put, tell)

A0, A1, A2, A3, A4 = [once("a", k) for k in range(5)]
B0, B1, B2, B3 = [once("b", k) for k in range(4)]
COUNTS = (0, 1, 2, 3, 4, 9, 150)
LETTERS = set("abcdefghijklmnopqrstuvwxyz")


def ring(many, turn):
    """A block that leads to itself, with so many joins that each take the worth of another, and tell it."""
    names = [once("x", k + 1) for k in range(many)]
    joins = [(names[k], [(-1, number(k % 10)), (0, name(names[turn[k]]))]) for k in range(many)]
    return one_row([tell(name(which)) for which in names], go(0), joins)


def wide_form(rows, joins):
    """A form of so many rows that all lead to block 1, where there are joins that exchange their names."""
    names = [once(text, 999 - k) for k, text in enumerate(["p", "q", "r", "s", "t", "u", "v", "w"] * 9)][:joins]
    heads = []
    for at, which in enumerate(names):
        parts = [(0, number(at % 10))] + [(block, name(names[(at + block) % joins])) for block in range(1, rows)]
        heads.append((which, parts))
    told = [(0, [], [], go(1)), (1, heads, [tell(name(which)) for which in names], choose(name(names[0]), 1, 2))]
    told += [(block, [], [], choose(name(names[block % joins]), 1, block + 1)) for block in range(2, rows - 1)]
    return (10, told + [(rows - 1, [], [tell(name(B0))], go(1))])


class Looks(unittest.TestCase):
    def check_program(self, program, measure):
        """Looks that what is told is a program, by point 4."""
        self.assertEqual([type(program), type(program[0]), type(program[1])], [tuple, int, list])
        self.assertEqual(program[0], measure)
        self.assertGreater(len(program[1]), 0)
        for block in program[1]:
            self.assertEqual([type(each) for each in block], [list, tuple])
            for deed in block[0]:
                self.assertIs(type(deed), tuple)
                if deed[0] == "put":
                    word, text, worth = deed
                    self.check_name(text)
                    self.check_worth(worth, measure)
                else:
                    word, part = deed
                    self.assertEqual(word, "tell")
                    self.check_part(part, measure)
            self.check_ending(block[1], program)

    def check_ending(self, ending, program):
        self.assertIs(type(ending), tuple)
        self.assertIn((ending[0], len(ending)), [("go", 2), ("choose", 4), ("stop", 1)])
        if ending[0] == "choose":
            self.check_part(ending[1], program[0])
        for block in ending[-1:] if ending[0] == "go" else ending[2:]:
            self.assertIs(type(block), int)
            self.assertIn(block, range(len(program[1])))

    def check_name(self, text):
        self.assertIs(type(text), str)
        self.assertTrue(1 <= len(text) <= 6 and set(text) <= LETTERS, text)

    def check_worth(self, worth, measure):
        if len(worth) == 2:
            return self.check_part(worth, measure)
        self.assertIn(worth[0], OPS)
        self.assertEqual([type(worth), len(worth)], [tuple, 3])
        self.check_part(worth[1], measure)
        self.check_part(worth[2], measure)

    def check_part(self, part, measure):
        self.assertEqual([type(part), len(part)], [tuple, 2])
        if part[0] == "number":
            self.assertIs(type(part[1]), int)
            self.assertTrue(0 <= part[1] < measure)
        else:
            self.assertEqual(part[0], "name")
            self.check_name(part[1])

    def check_led(self, form, givens=None, counts=COUNTS):
        """Looks at the program to which the form is led back by all that is promised. Tells it."""
        self.assertIs(is_good(form), True, form)
        program = led_back(form)
        self.check_program(program, form[0])
        # What is given for the program's other names changes nothing.
        more = {text: at % form[0] for at, text in enumerate(names_of(program), 1)}
        for given in (givens or made_givens(1, form)) + [more]:
            for many in counts:
                told, over = run_form(form, given, many)
                twice, ended = run(program, given, 2 * many)
                self.assertEqual(twice[:len(told)], told)
                self.assertTrue(ended or not over)
                slow = run(program, given, many)[0]
                self.assertEqual(told[:len(slow)], slow)
        return program

    def check_bound(self, program):
        counts = {text: 0 for text in names_of(program)}
        for deeds, ending in program[1]:
            for deed in deeds:
                if deed[0] == "put":
                    counts[deed[1]] += 1
        for block, text in joins_of(program):
            counts[text] += 1
        self.assertLessEqual(max(counts.values()), 999)


class LedBack(Looks):
    def test_no_joins(self):
        self.check_led(one_row([]))
        self.check_led(one_row([tell(number(3)), tell(name(A0))]), [{}, {"a": 4}])
        self.check_led(one_row([put(A1, ("plus", name(A0), number(1))), tell(name(A1))], choose(name(A1), 0, 0)))

    def test_each_op(self):
        for op in OPS:
            deeds = [put(A1, (op, name(A0), name(B0))), tell(name(A1)), put(A2, (op, number(1), name(A0))),
                     put(A3, (op, name(B0), number(2))), tell(name(A2)), tell(name(A3))]
            self.check_led(one_row(deeds, choose(name(A1), 0, 0)),
                           [{"a": a, "b": b} for a in (0, 3) for b in (0, 3, 7)])

    def test_joins_that_exchange_their_names(self):
        for many in (1, 2, 3, 4):
            for turn in itertools.product(range(many), repeat=many):
                program = self.check_led(ring(many, turn), [{}], (0, 1, 2, 5, 9))
        self.assertEqual(run(program, {}, 6)[0][:8], [0, 1, 2, 3, 3, 3, 3, 3])

    def test_exchanging_joins_in_any_order_with_given_names_and_numbers(self):
        for order in itertools.permutations(range(4)):
            joins = [(A1, [(-1, name(A0)), (0, name(A2))]), (A2, [(-1, name(B0)), (0, name(A1))]),
                     (A3, [(-1, number(7)), (0, name(A1))]), (A4, [(-1, name(A0)), (0, number(9))])]
            form = one_row([tell(name(which)) for which in (A1, A2, A3, A4)], go(0), [joins[at] for at in order])
            self.check_led(form, [{}, {"a": 3, "b": 4}], (0, 1, 2, 5))

    def test_a_join_that_is_still_used_behind_its_loop(self):
        # The worth ahead of the last time round is told behind: no put into the join's name may come too soon.
        rows = [(0, [(A1, [(-1, number(1)), (0, name(A2))])],
                 [put(A2, ("plus", name(A1), number(1))), put(B1, ("below", name(A2), number(5)))],
                 choose(name(B1), 0, 1)), (1, [], [tell(name(A1)), tell(name(A2))], STOP)]
        program = self.check_led((10, rows))
        self.assertEqual(run(program, {}, 300), ([4, 5], True))

    def test_a_step_that_leads_to_joins_and_elsewhere(self):
        # Whoever leaves 2 for 3 must find A1 as it was, though 2 leads to the join of it, too.
        rows = [(0, [], [], go(2)), (2, [(A1, [(0, number(5)), (2, number(6))])], [], choose(name(A0), 2, 3)),
                (3, [], [tell(name(A1))], STOP)]
        self.assertEqual(run(self.check_led((10, rows)), {}, 300), ([5], True))

    def test_joins_at_a_block_that_leads_to_itself(self):
        rows = [(0, [], [put(A1, number(1))], go(4)),
                (4, [(A2, [(0, name(A1)), (4, name(A3))]), (B1, [(0, name(B0)), (4, name(A2))])],
                 [put(A3, ("plus", name(A2), name(B1))), tell(name(A3))], choose(name(A3), 4, 9)),
                (9, [], [tell(name(B1)), tell(name(A2))], STOP)]
        self.check_led((1000, rows), [{}, {"b": 1}, {"b": 999}])
        both = (10, [rows[0], rows[1][:3] + (choose(name(A3), 4, 4),)])
        self.check_led(both)

    def test_joins_at_block_0(self):
        joins = [(A1, [(-1, name(B0)), (0, name(B1))]), (B1, [(-1, name(A0)), (0, name(A1))])]
        program = self.check_led(one_row([tell(name(A1)), tell(name(B1))], go(0), joins), [{"a": 1, "b": 2}])
        self.assertEqual(run(program, {"a": 1, "b": 2}, 300)[0][:6], [2, 1, 1, 2, 2, 1])

    def test_a_join_of_one_part_from_the_begin(self):
        self.check_led(one_row([tell(name(A1))], STOP, [(A1, [(-1, number(4))])]))

    def test_great_block_numbers(self):
        far = 999999999999999
        rows = [(0, [], [], choose(name(A0), far - 1, far)),
                (far - 1, [], [put(A1, number(1))], go(far)),
                (far, [(A2, [(0, number(2)), (far - 1, name(A1)), (far, name(A3))])],
                 [put(A3, ("plus", name(A2), number(1))), tell(name(A2))], go(far))]
        begun = time.perf_counter()
        self.check_led((10, rows), [{}, {"a": 1}])
        self.assertLess(time.perf_counter() - begun, 3)

    def test_names_and_k_at_their_bounds(self):
        last, z0 = once("zzzzzz", 999), once("zzzzzz", 0)
        joins = [(last, [(-1, name(z0)), (0, name(once("zzzzzz", 998)))])]
        form = one_row([put(once("zzzzzz", 998), ("plus", name(last), name(z0))), tell(name(last))], go(0), joins)
        self.check_led(form, [{}, {"zzzzzz": 7}])

    def test_every_short_name_is_given(self):
        # The names of the program must be none of these: each is still worth what was given.
        texts = [a + b for a in [""] + sorted(LETTERS) for b in sorted(LETTERS)]
        deeds = [put(A1, number(5)), put(A2, ("plus", name(A1), number(1)))]
        deeds += [tell(name(once(text, 0))) for text in texts] + [tell(name(A1)), tell(name(A2))]
        joins = [(A3, [(-1, number(1)), (0, name(A4))]), (A4, [(-1, number(2)), (0, name(A3))])]
        form = one_row(deeds + [tell(name(A3))], go(0), joins, measure=1000)
        self.check_led(form, [{}, {text: at for at, text in enumerate(texts)}], (0, 1, 2, 3))

    def test_given_names_besides(self):
        form = one_row([put(A1, number(5)), tell(name(A1)), tell(name(B0)), tell(name(A0))])
        self.check_led(form, [{"a": 1, "b": 2, "c": 3, "q": 4, "aaaaaa": 5, "zzzzzz": 6}])

    def test_given_names_stay_as_they_are(self):
        program = led_back(one_row([tell(name(once("other", 0))), put(once("other", 3), number(1))]))
        self.assertIn("other", names_of(program))
        self.assertNotIn("other", [deed[1] for deeds, ending in program[1] for deed in deeds if deed[0] == "put"])

    def test_made_forms(self):
        for seed in range(250):
            self.check_led(made_form(seed, 1 + seed % 12, joins=1 + seed % 4))

    def test_parted_and_tidied_programs(self):
        for seed in range(80):
            form = parted(made_program(seed, 1 + seed % 24, names=1 + seed % 6, stops=seed % 3 > 0))
            self.check_led(form, counts=(0, 1, 30, 150))
            self.check_led(tidy(form), counts=(0, 1, 30, 150))

    def test_behind_steps_by_chance(self):
        for seed in range(50):
            rng = random.Random(seed)
            form = made_form(seed, 3 + seed % 7, joins=3)
            while steps(form):
                form = step(form, rng.choice(steps(form)))
                self.check_led(form, counts=(1, 20))


class Bound(Looks):
    def test_twenty_four_rows_and_400_parts_of_joins(self):
        form = wide_form(24, 16)
        self.assertEqual(len(form[1]), 24)
        self.assertTrue(380 <= sum(len(parts) for row in form[1] for which, parts in row[1]) <= 400)
        program = self.check_led(form, counts=(0, 1, 2, 40, 150))
        self.check_bound(program)

    def test_400_joins_at_one_block(self):
        names = [once("abcdef"[k % 6], k // 6 + 1) for k in range(200)]
        joins = [(names[k], [(-1, number(k % 10)), (0, name(names[k - 1]))]) for k in range(200)]
        program = self.check_led(one_row([tell(name(which)) for which in names[:9]], go(0), joins), [{}], (0, 1, 30))
        self.check_bound(program)

    def test_made_forms(self):
        for seed in range(40):
            self.check_bound(led_back(made_form(seed, 24, joins=6)))

    def test_greatest_parted_forms(self):
        for seed in range(4):
            form = parted(made_program(seed, 24, names=20, stops=False))
            self.check_bound(led_back(form))


class Onward(Looks):
    """The program that was told is handed in again."""

    def check_onward(self, form):
        program = led_back(form)
        many = len(program[1])
        self.assertEqual(len(into(program)), many)
        above = masters(program)
        begins = wanted(program)
        self.assertEqual([len(above), len(begins)], [many, many])
        joined = joins_of(program)
        reached = [block for block in range(many) if above[block] is not None]
        for block in reached[:3] + reached[-3:]:
            self.assertTrue(all(around(program, a, block) is None for a in above[block]))
            for text in names_of(program)[:6]:
                self.assertEqual(want_way(program, block, text) is not None, text in begins[block][0])
                must = meet(program, block, text)[0] == "meet" and text in begins[block][0]
                self.assertEqual((block, text) in joined, must)
        again = parted(program)
        self.assertIs(is_good(again), True)
        for given in made_givens(2, form):
            for count in (0, 1, 2, 40, 300):
                self.assertEqual(run_form(again, given, count), run(program, given, count))
        return again

    def test_made_forms(self):
        for seed in range(60):
            self.check_onward(made_form(seed, 2 + seed % 10, joins=3))

    def test_the_greatest(self):
        for form in (wide_form(24, 16), parted(made_program(3, 24, names=20, stops=False))):
            begun = time.perf_counter()
            again = self.check_onward(form)
            # Led back, parted, tidied and led back once more it takes four blocks for each.
            program = led_back(tidy(again))
            self.assertLess(time.perf_counter() - begun, 20)
            for given in made_givens(3, form):
                told, over = run_form(form, given, 40)
                self.assertEqual(run(program, given, 160)[0][:len(told)], told)


class Refusals(unittest.TestCase):
    def test_a_form_that_is_not_good(self):
        for form in [(1, [(0, [], [], STOP)]), (10, []), one_row([tell(name(A1))]), one_row([put(A1, number(10))]),
                     one_row([put(A0, number(1))]), one_row([], go(1)), one_row([], STOP, [(A1, [])]),
                     (10, [(0, [], [], STOP), (1, [], [], STOP)])]:
            kept = copy.deepcopy(form)
            with self.assertRaises(NoForm) as caught:
                led_back(form)
            self.assertEqual(type(caught.exception).__bases__, (OnceError,))
            self.assertEqual(form, kept)


class Asking(unittest.TestCase):
    def test_the_answers_are_the_askers_own(self):
        for seed in range(40):
            check_asking(self, led_back, made_form(seed, 2 + seed % 9))

    def test_by_name_of_the_argument(self):
        form = one_row([tell(name(A0))])
        self.assertEqual(led_back(form=form), led_back(form))


if __name__ == "__main__":
    unittest.main()
