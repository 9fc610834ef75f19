import copy
import unittest
from collections import defaultdict

from oncenames.programs import names_of, run
from samples import STOP, check_asking, choose, go, made_given, made_program, name, number, put, tell

LAST = 10 ** 9 - 1


def told_of(worth, measure=10, given=None):
    """What a program tells of a worth that it puts."""
    return run((measure, [([put("x", worth), tell(name("x"))], STOP)]), given or {}, 1)


def python_of(program):
    """The program as Python's own code: another reading of the document to hold run against."""
    measure, blocks = program
    signs = {"plus": "({} + {}) % {}", "less": "({} - {}) % {}", "times": "({} * {}) % {}",
             "below": "int({} < {})", "same": "int({} == {})"}

    def part(which):
        return str(which[1]) if which[0] == "number" else f"now[{which[1]!r}]"

    def worth(which):
        return signs[which[0]].format(part(which[1]), part(which[2]), measure) if len(which) == 3 else part(which)

    def row(deed):
        return f"now[{deed[1]!r}] = {worth(deed[2])}" if deed[0] == "put" else f"told.append({part(deed[1])})"

    def ending(which):
        if which[0] == "choose":
            return f"return {which[2]} if {part(which[1])} else {which[3]}"
        return f"return {which[1]}" if which[0] == "go" else "return None"

    rows = []
    for at, (deeds, last) in enumerate(blocks):
        rows += [f"def block{at}(now, told):"] + [f"    {row(deed)}" for deed in deeds] + [f"    {ending(last)}"]
    code = {}
    exec("\n".join(rows), code)
    return code


def run_by_python(program, given, many):
    code, now, told, at = python_of(program), defaultdict(int, given), [], 0
    while many and at is not None:
        at = code[f"block{at}"](now, told)
        many -= 1
    return told, at is None


class NamesOf(unittest.TestCase):
    def test_names_of_every_place(self):
        deeds = [put("put", ("plus", name("left"), name("right"))), put("b", name("alone")), tell(name("told"))]
        program = (5, [(deeds, choose(name("asked"), 0, 0))])
        self.assertEqual(names_of(program), ["alone", "asked", "b", "left", "put", "right", "told"])

    def test_each_once_and_in_order(self):
        deeds = [put("b", name("ab")), put("aa", name("b")), put("b", ("same", name("b"), name("b"))), tell(name("b"))]
        self.assertEqual(names_of((5, [(deeds, go(0))])), ["aa", "ab", "b"])

    def test_names_of_blocks_that_are_not_reached(self):
        program = (5, [([], STOP), ([put("a", number(1))], go(1)), ([tell(name("b"))], choose(name("c"), 0, 1))])
        self.assertEqual(names_of(program), ["a", "b", "c"])

    def test_none(self):
        deeds = [tell(number(3))]
        self.assertEqual(names_of((5, [(deeds, choose(number(1), 0, 0))])), [])
        self.assertEqual(names_of((5, [([], STOP)])), [])

    def test_names_like_words(self):
        words = ["below", "choose", "go", "less", "name", "number", "plus", "put", "same", "stop", "tell", "times"]
        deeds = [put(word, name(word)) for word in words]
        self.assertEqual(names_of((5, [(deeds, STOP)])), words)

    def test_twenty_names_and_more(self):
        for many in (20, 700):
            texts = [a + b for a in "abcdefghijklmnopqrstuvwxyz" for b in "zyxwvutsrqponmlkjihgfedcba"][:many]
            blocks = [([put(text, number(0))], STOP) for text in texts]
            self.assertEqual(names_of((2, blocks[:24])), sorted(texts[:24]))
            self.assertEqual(names_of((2, blocks)), sorted(texts))

    def test_by_name_of_the_argument(self):
        self.assertEqual(names_of(program=(5, [([tell(name("a"))], STOP)])), ["a"])

    def test_the_answer_is_the_askers_own(self):
        for seed in range(20):
            check_asking(self, names_of, made_program(seed, 5))


class Worths(unittest.TestCase):
    def test_parts(self):
        self.assertEqual(told_of(number(7)), ([7], True))
        self.assertEqual(told_of(name("y"), given={"y": 4}), ([4], True))
        self.assertEqual(told_of(name("y")), ([0], True))

    def test_each_op(self):
        for op, first, second, worth in [
                ("plus", 3, 4, 7), ("plus", 3, 7, 0), ("plus", 9, 9, 8), ("plus", 0, 0, 0),
                ("less", 4, 3, 1), ("less", 3, 4, 9), ("less", 0, 9, 1), ("less", 5, 5, 0),
                ("times", 3, 3, 9), ("times", 4, 5, 0), ("times", 9, 9, 1), ("times", 0, 9, 0),
                ("below", 3, 4, 1), ("below", 4, 3, 0), ("below", 4, 4, 0), ("below", 0, 9, 1),
                ("same", 4, 4, 1), ("same", 3, 4, 0), ("same", 4, 3, 0), ("same", 0, 0, 1)]:
            given = {"y": first, "z": second}
            for one in (number(first), name("y")):
                for other in (number(second), name("z")):
                    self.assertEqual(told_of((op, one, other), given=given), ([worth], True), (op, first, second))

    def test_measure_two(self):
        for op, worths in [("plus", [0, 1, 1, 0]), ("less", [0, 1, 1, 0]), ("times", [0, 0, 0, 1]),
                           ("below", [0, 1, 0, 0]), ("same", [1, 0, 0, 1])]:
            told = [told_of((op, number(a), number(b)), measure=2)[0][0] for a in (0, 1) for b in (0, 1)]
            self.assertEqual(told, worths, op)

    def test_the_greatest_measure(self):
        for op, worth in [("plus", LAST - 1), ("less", 0), ("times", 1), ("below", 0), ("same", 1)]:
            self.assertEqual(told_of((op, number(LAST), number(LAST)), measure=10 ** 9), ([worth], True), op)
        self.assertEqual(told_of(("less", number(0), number(LAST)), measure=10 ** 9), ([1], True))

    def test_truths_are_told_as_whole_numbers(self):
        for op in ("below", "same"):
            for first in (3, 4):
                told, over = told_of((op, number(first), number(4)))
                self.assertIs(type(told[0]), int)

    def test_a_put_of_its_own_name(self):
        for worth, told in [(name("x"), 6), (("plus", name("x"), name("x")), 2), (("less", number(1), name("x")), 5),
                            (("times", name("x"), number(3)), 8), (("below", name("x"), number(7)), 1),
                            (("same", name("x"), name("x")), 1)]:
            self.assertEqual(told_of(worth, given={"x": 6}), ([told], True), worth)

    def test_names_like_words(self):
        for word in ["plus", "below", "number", "name", "put", "stop"]:
            deeds = [put(word, number(3)), put("x", name(word)), tell(name("x"))]
            self.assertEqual(run((10, [(deeds, STOP)]), {word: 8}, 1), ([3], True))


class Run(unittest.TestCase):
    def test_deeds_go_in_their_order(self):
        deeds = [tell(name("a")), put("a", number(2)), tell(name("a")), put("b", name("a")), put("a", number(5)),
                 tell(name("b")), tell(name("a")), tell(number(9))]
        self.assertEqual(run((10, [(deeds, STOP)]), {"a": 1}, 5), ([1, 2, 2, 5, 9], True))

    def test_what_is_put_lasts_from_block_to_block(self):
        program = (10, [([put("a", number(4))], go(2)), ([tell(name("a"))], STOP), ([], go(1))])
        self.assertEqual(run(program, {}, 3), ([4], True))

    def test_given_names(self):
        program = (10, [([tell(name("a")), tell(name("b"))], STOP)])
        self.assertEqual(run(program, {}, 1), ([0, 0], True))
        self.assertEqual(run(program, {"b": 7}, 1), ([0, 7], True))
        self.assertEqual(run(program, {"a": 9, "b": 0}, 1), ([9, 0], True))
        self.assertEqual(run(program, {"c": 5, "b": 7, "zzzzzz": 1}, 1), ([0, 7], True))

    def test_choose(self):
        blocks = [([], choose(name("a"), 1, 2)), ([tell(number(1))], STOP), ([tell(number(2))], STOP)]
        for worth, told in [(0, 2), (1, 1), (9, 1)]:
            self.assertEqual(run((10, blocks), {"a": worth}, 2), ([told], True))
            blocks_by_number = [([], choose(number(worth), 1, 2))] + blocks[1:]
            self.assertEqual(run((10, blocks_by_number), {}, 2), ([told], True))

    def test_choose_behind_the_deeds(self):
        program = (10, [([put("a", number(0))], choose(name("a"), 0, 1)), ([tell(number(3))], STOP)])
        self.assertEqual(run(program, {"a": 1}, 9), ([3], True))

    def test_choose_with_both_blocks_alike(self):
        program = (10, [([], choose(name("a"), 1, 1)), ([tell(number(1))], STOP)])
        for worth in (0, 1):
            self.assertEqual(run(program, {"a": worth}, 2), ([1], True))

    def test_counts(self):
        program = (10, [([tell(number(0))], go(1)), ([tell(number(1))], go(2)), ([tell(number(2))], STOP)])
        for many, told in [(0, ([], False)), (1, ([0], False)), (2, ([0, 1], False)), (3, ([0, 1, 2], True)),
                           (4, ([0, 1, 2], True)), (300, ([0, 1, 2], True))]:
            self.assertEqual(run(program, {}, many), told)

    def test_no_block_entered_isnt_over_even_where_the_first_one_stops(self):
        self.assertEqual(run((10, [([tell(number(1))], STOP)]), {}, 0), ([], False))
        self.assertEqual(run((10, [([tell(number(1))], STOP)]), {}, 1), ([1], True))

    def test_a_block_that_leads_to_itself(self):
        program = (1000, [([put("a", ("plus", name("a"), number(1))), tell(name("a"))], go(0))])
        self.assertEqual(run(program, {}, 300), (list(range(1, 301)), False))
        self.assertEqual(run(program, {"a": 998}, 3), ([999, 0, 1], False))

    def test_stop_in_the_three_hundredth_block(self):
        counted = [put("a", ("plus", name("a"), number(1))), put("b", ("below", name("a"), number(299)))]
        program = (1000, [(counted, choose(name("b"), 0, 1)), ([tell(name("a"))], STOP)])
        self.assertEqual(run(program, {}, 299), ([], False))
        self.assertEqual(run(program, {}, 300), ([299], True))

    def test_over_is_a_truth_and_the_answer_a_tuple(self):
        for many in (0, 1):
            answer = run((10, [([], STOP)]), {}, many)
            self.assertIs(type(answer), tuple)
            self.assertIs(type(answer[0]), list)
            self.assertIs(answer[1], many == 1)

    def test_against_python(self):
        stopped = 0
        for seed in range(300):
            program = made_program(seed, 1 + seed % 24, names=1 + seed % 20)
            given = made_given(seed, program)
            for many in (0, 1, 2, 17, 300):
                answer = run(program, given, many)
                self.assertEqual(answer, run_by_python(program, given, many), seed)
                stopped += answer[1]
        self.assertGreater(stopped, 100)

    def test_beyond_the_bounds(self):
        for seed in range(5):
            program = made_program(seed, 200, names=300, deeds=40, stops=False)
            self.assertEqual(run(program, {"a": 1}, 400), run_by_python(program, {"a": 1}, 400))

    def test_by_names_of_the_arguments(self):
        program = (10, [([tell(name("a"))], go(0))])
        self.assertEqual(run(many=2, program=program, given={"a": 3}), ([3, 3], False))
        self.assertEqual(run(program, many=1, given={"a": 3}), ([3], False))

    def test_the_answer_is_the_askers_own(self):
        for seed in range(40):
            program = made_program(seed, 5)
            check_asking(self, run, program, made_given(seed, program), 20)

    def test_a_later_change_of_what_was_handed_in_changes_no_answer(self):
        program, given = (10, [([tell(name("a"))], go(0))]), {"a": 3}
        answer = run(program, given, 2)
        names = names_of(program)
        kept = copy.deepcopy((answer, names))
        program[1][0][0].append(tell(number(1)))
        program[1].append(([put("z", number(1))], STOP))
        given["a"] = 4
        self.assertEqual((answer, names), kept)
        self.assertEqual(run(program, given, 2), ([4, 1, 4, 1], False))
        self.assertEqual(names_of(program), ["a", "z"])


if __name__ == "__main__":
    unittest.main()
