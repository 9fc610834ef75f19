import copy
import time
import unittest

from oncenames.errors import NoForm, OnceError
from oncenames.forms import parted, run_form
from oncenames.looker import is_good
from oncenames.meets import joins_of
from oncenames.programs import run
from oncenames.ways import into, masters
from samples import (STOP, check_asking, choose, go, made_given, made_program, name, number, once, put, shape, shapes,
                     subsets, tell, with_puts)

A0, A1, A2, A3, B1 = once("a", 0), once("a", 1), once("a", 2), once("a", 3), once("b", 1)
COUNTS = (0, 1, 2, 7, 300)
# Counts a down from what is given, telling b, which is doubled on the one way and added to on the other.
WHILE = (1000, [
    ([tell(name("a"))], choose(name("a"), 1, 4)),
    ([put("a", ("less", name("a"), number(1))), put("c", ("below", name("a"), number(3)))], choose(name("c"), 2, 3)),
    ([put("b", ("times", name("b"), number(2)))], go(0)),
    ([put("b", ("plus", name("b"), number(5)))], go(0)),
    ([tell(name("b"))], STOP),
    ([put("d", name("b"))], go(0)),
])
# Joins that take one another's worths.
SWAP = (10, [
    (0, [(A1, [(-1, name(A0)), (0, name(B1))]), (B1, [(-1, name(once("b", 0))), (0, name(A1))])],
     [tell(name(A1)), tell(name(B1))], go(0)),
])


def part_without_k(part):
    return ("name", part[1][0]) if part[0] == "name" else part


def worth_without_k(worth):
    if len(worth) == 3:
        return (worth[0], part_without_k(worth[1]), part_without_k(worth[2]))
    return part_without_k(worth)


def without_k(row):
    """The row's deeds and ending, as they are in a program."""
    block, joins, deeds, ending = row
    if ending[0] == "choose":
        ending = ("choose", part_without_k(ending[1])) + ending[2:]
    return ([("put", deed[1][0], worth_without_k(deed[2])) if deed[0] == "put" else ("tell", part_without_k(deed[1]))
             for deed in deeds], ending)


class Parted(unittest.TestCase):
    def check_form(self, program):
        """Looks at the parted form by all that is promised of how it is written. Tells it."""
        form = parted(program)
        measure, rows = form
        self.assertEqual([type(form), type(rows)], [tuple, list])
        self.assertIs(is_good(form), True)
        self.assertEqual(measure, program[0])
        reached = [block for block, above in enumerate(masters(program)) if above is not None]
        self.assertEqual([row[0] for row in rows], reached)
        self.assertEqual([without_k(row) for row in rows], [program[1][block] for block in reached])
        self.assertEqual([(row[0], which[0]) for row in rows for which, parts in row[1]], joins_of(program))
        sources = [[source for source in each if source == -1 or source in reached] for each in into(program)]
        for row in rows:
            self.assertEqual([type(row), type(row[1]), type(row[2])], [tuple, list, list])
            for which, parts in row[1]:
                self.assertEqual([source for source, part in parts], sources[row[0]])
                self.assertEqual({part_without_k(part) for source, part in parts}, {name(which[0])})
        return form

    def check_told(self, program, givens, counts=COUNTS):
        form = self.check_form(program)
        for given in givens:
            for many in counts:
                self.assertEqual(run_form(form, given, many), run(program, given, many))

    def test_ordinary(self):
        measure, rows = self.check_form(WHILE)
        self.assertEqual(joins_of(WHILE), [(0, "a"), (0, "b")])
        self.assertEqual([row[0] for row in rows], [0, 1, 2, 3, 4])
        (a, a_parts), (b, b_parts) = rows[0][1]
        self.assertEqual((a[0], b[0]), ("a", "b"))
        put_a, put_b, put_other = rows[1][2][0][1], rows[2][2][0][1], rows[3][2][0][1]
        self.assertEqual(a_parts, [(-1, name(A0)), (2, name(put_a)), (3, name(put_a))])
        self.assertEqual(b_parts, [(-1, name(once("b", 0))), (2, name(put_b)), (3, name(put_other))])
        self.assertEqual(rows[0][2:], ([tell(name(a))], choose(name(a), 1, 4)))
        self.assertEqual(rows[2][2], [put(put_b, ("times", name(b), number(2)))])
        self.assertEqual(rows[4][1:], ([], [tell(name(b))], STOP))
        self.check_told(WHILE, [{}, {"a": 1}, {"a": 9, "b": 4}, {"a": 2, "b": 999, "c": 1, "q": 3}])

    def test_no_joins_where_each_name_comes_by_one_way(self):
        program = (10, [([put("a", name("a")), put("a", ("plus", name("a"), name("b"))), tell(name("a"))], go(1)),
                        ([tell(name("a"))], choose(name("a"), 1, 2)), ([tell(name("b"))], STOP)])
        form = self.check_form(program)
        first, second = form[1][0][2][0][1], form[1][0][2][1][1]
        self.assertEqual(form, (10, [
            (0, [], [put(first, name(A0)), put(second, ("plus", name(first), name(once("b", 0)))), tell(name(second))],
             go(1)),
            (1, [], [tell(name(second))], choose(name(second), 1, 2)), (2, [], [tell(name(once("b", 0)))], STOP)]))
        self.assertNotEqual(first, second)

    def test_a_block_that_leads_to_itself(self):
        counted = [put("a", ("plus", name("a"), number(1))), tell(name("a"))]
        self.check_told((10, [(counted, go(0))]), [{}, {"a": 7}])
        self.check_told((10, [([], go(1)), (counted, choose(name("a"), 1, 2)), ([], STOP)]), [{}, {"a": 7}])

    def test_worths_that_change_places(self):
        turned = [put("c", name("a")), put("a", name("b")), put("b", name("c")), tell(name("a"))]
        self.check_told((10, [(turned, go(0))]), [{"a": 1, "b": 2}])

    def test_blocks_that_are_not_reached_are_left_out(self):
        program = (10, [([], go(3)), ([put("a", number(1))], go(3)), ([], go(1)), ([tell(name("a"))], STOP)])
        self.assertEqual(self.check_form(program), (10, [(0, [], [], go(3)), (3, [], [tell(name(A0))], STOP)]))

    def test_no_part_from_a_block_that_is_not_reached(self):
        program = (10, [([tell(name("a")), put("a", number(1))], go(0)), ([put("a", number(2))], go(0))])
        which, parts = self.check_form(program)[1][0][1][0]
        self.assertEqual([source for source, part in parts], [-1, 0])

    def test_both_ends_alike(self):
        program = (10, [([tell(name("a")), put("a", number(1))], choose(name("b"), 0, 0))])
        self.check_told(program, [{}, {"a": 3, "b": 1}])

    def test_joins_in_the_order_of_their_names(self):
        texts = ["z", "b", "ab", "a", "aa", "zzzzzz"]
        program = (10, [([put(text, ("plus", name(text), number(1))) for text in texts], go(0))])
        self.assertEqual([which[0] for which, parts in self.check_form(program)[1][0][1]], sorted(texts))

    def test_names_like_words(self):
        words = ["plus", "below", "number", "name", "put", "stop"]
        program = (10, [([put(word, ("plus", name(word), number(1))) for word in words]
                         + [tell(name(word)) for word in words], choose(name("name"), 0, 0))])
        self.check_told(program, [{}, {"plus": 3, "name": 4}])

    def test_no_deeds(self):
        self.assertEqual(self.check_form((2, [([], STOP)])), (2, [(0, [], [], STOP)]))
        self.check_told(shape([0]), [{}])

    def test_every_shape_of_three_blocks(self):
        for program in shapes(3):
            for places in subsets(range(3)):
                self.check_form(with_puts(program, "a", places))

    def test_against_run(self):
        for seed in range(300):
            program = made_program(seed, 1 + seed % 24, names=1 + seed % 20, deeds=1 + seed % 8, stops=seed % 3 > 0)
            self.check_told(program, [{}, made_given(seed, program), made_given(seed + 1, program)])

    def test_many_small_programs_against_run(self):
        for seed in range(600):
            program = made_program(seed, 2 + seed % 6, names=2, deeds=3, stops=seed % 2 == 0)
            self.check_told(program, [{}, made_given(seed, program)], (1, 40))

    def test_twenty_four_blocks_with_twenty_names_soon(self):
        for seed in range(5):
            program = made_program(seed, 24, names=20, stops=False)
            begun = time.perf_counter()
            form = parted(program)
            is_good(form)
            run_form(form, {}, 300)
            self.assertLess(time.perf_counter() - begun, 3)
            self.check_told(program, [{}, made_given(seed, program)])

    def test_beyond_the_bounds(self):
        for seed in range(3):
            program = made_program(seed, 80, names=150, deeds=20, stops=False)
            self.check_told(program, [{}, made_given(seed, program)])

    def test_a_thousand_blocks(self):
        many = 1000
        counted = put("a", ("plus", name("a"), number(1)))
        rows = [([counted] if block < 998 else [], go(block + 1)) for block in range(many)]
        self.check_told((10 ** 9, rows + [([tell(name("a"))], go(0))]), [{"a": 5}], (0, 1, 2500))

    def test_999_puts_and_joins_of_a_name(self):
        counted = put("a", ("plus", name("a"), number(1)))
        self.check_told((10, [([counted] * 999 + [tell(name("a"))], STOP)]), [{}, {"a": 3}])
        self.check_told((10, [([counted] * 998 + [tell(name("a"))], go(0))]), [{}, {"a": 3}])

    def test_by_name_of_the_argument(self):
        self.assertEqual(parted(program=(2, [([], STOP)])), (2, [(0, [], [], STOP)]))


class RunForm(unittest.TestCase):
    def test_joins_are_done_all_at_once(self):
        self.assertEqual(run_form(SWAP, {"a": 1, "b": 2}, 4), ([1, 2, 2, 1, 1, 2, 2, 1], False))
        turned = (10, [(0, SWAP[1][0][1][::-1]) + SWAP[1][0][2:]])
        self.assertEqual(run_form(turned, {"a": 1, "b": 2}, 3), ([1, 2, 2, 1, 1, 2], False))

    def test_three_joins_in_a_ring(self):
        ring = [once("a", 1), once("b", 1), once("c", 1)]
        joins = [(ring[k], [(-1, number(k)), (0, name(ring[k - 1]))]) for k in range(3)]
        form = (10, [(0, joins, [tell(name(which)) for which in ring], go(0))])
        self.assertEqual(run_form(form, {}, 4), ([0, 1, 2, 2, 0, 1, 1, 2, 0, 0, 1, 2], False))

    def test_a_join_takes_the_part_of_the_block_come_from(self):
        rows = [(0, [], [], choose(name(A0), 3, 5)), (3, [], [put(A1, number(4))], go(7)), (5, [], [], go(7)),
                (7, [(A2, [(3, name(A1)), (5, number(6)), (7, number(8))])], [tell(name(A2))], go(7))]
        self.assertEqual(run_form((10, rows), {"a": 1}, 5), ([4, 8, 8], False))
        self.assertEqual(run_form((10, rows), {"a": 0}, 5), ([6, 8, 8], False))

    def test_a_join_at_block_0_takes_from_the_begin(self):
        rows = [(0, [(A1, [(-1, number(7)), (0, name(A2))])], [put(A2, ("plus", name(A1), number(1))), tell(name(A1))],
                 go(0))]
        self.assertEqual(run_form((10, rows), {}, 5), ([7, 8, 9, 0, 1], False))

    def test_given_names(self):
        form = (10, [(0, [], [tell(name(A0)), tell(name(once("b", 0))), put(A1, number(3)), tell(name(A0)),
                              tell(name(A1))], STOP)])
        self.assertEqual(run_form(form, {}, 1), ([0, 0, 0, 3], True))
        self.assertEqual(run_form(form, {"a": 5}, 1), ([5, 0, 5, 3], True))
        self.assertEqual(run_form(form, {"b": 6, "q": 1, "zzzzzz": 2}, 1), ([0, 6, 0, 3], True))

    def test_what_is_given_stands_for_k_0_alone(self):
        rows = [(0, [(A1, [(-1, number(1)), (0, name(A0))])], [tell(name(A1)), tell(name(A0))], go(0))]
        self.assertEqual(run_form((10, rows), {"a": 8}, 2), ([1, 8, 8, 8], False))

    def test_each_op_and_the_endings(self):
        for op, worth in [("plus", 2), ("less", 6), ("times", 7), ("below", 0), ("same", 0)]:
            form = (10, [(0, [], [put(A1, (op, number(9), number(3)))], choose(name(A1), 1, 2)),
                         (1, [], [tell(name(A1))], STOP), (2, [], [tell(number(5)), tell(name(A1))], STOP)])
            self.assertEqual(run_form(form, {}, 2), ([worth] if worth else [5, 0], True))

    def test_counts(self):
        form = (10, [(0, [], [tell(number(0))], go(1)), (1, [], [tell(number(1))], go(2)), (2, [], [], STOP)])
        for many, told in [(0, ([], False)), (1, ([0], False)), (2, ([0, 1], False)), (3, ([0, 1], True)),
                           (300, ([0, 1], True))]:
            self.assertEqual(run_form(form, {}, many), told)
        self.assertEqual(run_form((10, [(0, [], [tell(number(1))], go(0))]), {}, 300), ([1] * 300, False))

    def test_great_block_numbers(self):
        far = 999999999999999
        rows = [(0, [], [], go(far - 1)),
                (far - 1, [(A1, [(0, name(A0)), (far, name(A2))])], [tell(name(A1))], go(far)),
                (far, [], [put(A2, ("plus", name(A1), number(1)))], go(far - 1))]
        begun = time.perf_counter()
        self.assertEqual(run_form((10, rows), {"a": 8}, 6), ([8, 9, 0], False))
        self.assertLess(time.perf_counter() - begun, 3)

    def test_kinds(self):
        for many in (0, 1):
            answer = run_form((10, [(0, [], [], STOP)]), {}, many)
            self.assertEqual([type(answer), type(answer[0])], [tuple, list])
            self.assertIs(answer[1], many == 1)

    def test_a_form_that_is_not_good(self):
        rows = [(0, [], [], STOP)]
        for form in [(1, rows), (10, []), (10, [(1, [], [], STOP)]), (10, rows * 2), (10, [(0, [], [], go(1))]),
                     (10, rows + [(1, [], [], STOP)]), (10, [(0, [], [tell(number(10))], STOP)]),
                     (10, [(0, [], [tell(name(A1))], STOP)]), (10, [(0, [], [put(A0, number(1))], STOP)]),
                     (10, [(0, [], [("say", number(1))], STOP)]), (10, [(0, [(A1, [])], [], STOP)])]:
            for many in COUNTS:
                with self.assertRaises(NoForm) as caught:
                    run_form(form, {"a": 1}, many)
                self.assertEqual(type(caught.exception).__bases__, (OnceError,))

    def test_by_names_of_the_arguments(self):
        self.assertEqual(run_form(many=1, given={"a": 4}, form=SWAP), ([4, 0], False))


class Asking(unittest.TestCase):
    def test_the_answers_are_the_askers_own(self):
        for seed in range(40):
            program = made_program(seed, 1 + seed % 24)
            form = check_asking(self, parted, program)
            check_asking(self, run_form, form, made_given(seed, program), 20)

    def test_a_refusal_changes_nothing(self):
        form = (10, [(0, [], [tell(name(A1))], STOP)])
        kept, given = copy.deepcopy(form), {"a": 1}
        self.assertRaises(NoForm, run_form, form, given, 3)
        self.assertEqual((form, given), (kept, {"a": 1}))

    def test_a_later_change_of_what_was_handed_in_changes_no_answer(self):
        program, given = copy.deepcopy(WHILE), {"a": 3}
        form = parted(program)
        answer = run_form(form, given, 9)
        kept = copy.deepcopy((form, answer))
        program[1][0][0].clear()
        program[1].pop()
        given["a"] = 4
        self.assertEqual((form, answer), kept)
        form[1][0][2].clear()
        self.assertEqual(answer, kept[1])
        self.assertEqual(parted(WHILE), kept[0])


if __name__ == "__main__":
    unittest.main()
