import copy
import time
import unittest

from oncenames.errors import NoBlock, NoName, OnceError
from oncenames.programs import names_of
from oncenames.wanted import want_way, wanted
from samples import (STOP, check_asking, choose, ends_of, events, first_event, go, made_program, name, number, put,
                     shape, tell)

FAR = 10 ** 5000
# Block 1 leads to itself and uses a; 2 puts a, of itself; 3 and 4 aren't reached, and lead to others and one another.
LOOP = (10, [
    ([put("b", number(1))], choose(name("c"), 1, 2)),
    ([tell(name("a"))], choose(name("b"), 1, 2)),
    ([put("a", ("plus", name("a"), name("d"))), tell(name("a"))], STOP),
    ([put("a", number(2)), tell(name("a"))], go(4)),
    ([put("d", number(2))], choose(name("e"), 3, 1)),
])


def wanted_by_ways(program):
    """Wanted names by going on from each block for each name."""
    def at_begin(block, text):
        line, seen = [block], set()
        while line:
            here = line.pop()
            word = first_event(program, here, text)
            if word == "use":
                return True
            if word is None and here not in seen:
                seen.add(here)
                line += ends_of(program, here)
        return False

    texts = names_of(program)
    begins = [[text for text in texts if at_begin(block, text)] for block in range(len(program[1]))]
    return [(begins[block], sorted({text for end in ends_of(program, block) for text in begins[end]}))
            for block in range(len(program[1]))]


def one_block(deeds, ending):
    return wanted((10, [(deeds, ending)]))[0]


class Wanted(unittest.TestCase):
    def test_ordinary(self):
        self.assertEqual(wanted(LOOP), [
            (["a", "c", "d"], ["a", "b", "d"]), (["a", "b", "d"], ["a", "b", "d"]), (["a", "d"], []),
            (["b", "e"], ["a", "b", "e"]), (["a", "b", "e"], ["a", "b", "d", "e"])])

    def test_each_place_of_a_use(self):
        deeds = [put("x", name("d")), put("x", ("less", name("c"), name("b"))), tell(name("a"))]
        self.assertEqual(one_block(deeds, choose(name("e"), 0, 0)), (["a", "b", "c", "d", "e"],) * 2)
        self.assertEqual(one_block(deeds, STOP), (["a", "b", "c", "d"], []))

    def test_a_put_whose_worth_uses_its_own_name(self):
        for worth in [name("a"), ("plus", name("a"), number(1)), ("plus", number(1), name("a"))]:
            self.assertEqual(one_block([put("a", worth)], STOP), (["a"], []))
            self.assertEqual(one_block([put("a", number(1)), put("a", worth)], STOP), ([], []))
        self.assertEqual(one_block([put("a", number(1))], STOP), ([], []))

    def test_an_ending_is_behind_all_deeds(self):
        self.assertEqual(one_block([put("a", number(1))], choose(name("a"), 0, 0)), ([], []))
        self.assertEqual(one_block([put("b", number(1))], choose(name("a"), 0, 0)), (["a"], ["a"]))

    def test_deeds_in_their_order(self):
        self.assertEqual(one_block([tell(name("a")), put("a", number(1))], STOP), (["a"], []))
        self.assertEqual(one_block([put("a", number(1)), tell(name("a"))], STOP), ([], []))

    def test_a_block_that_leads_to_itself(self):
        self.assertEqual(one_block([put("a", number(1)), tell(name("a"))], go(0)), ([], []))
        self.assertEqual(one_block([tell(name("a")), put("a", number(1))], go(0)), (["a"], ["a"]))
        self.assertEqual(one_block([tell(name("a"))], go(0)), (["a"], ["a"]))

    def test_a_put_that_is_used_nowhere(self):
        self.assertEqual(one_block([put("a", number(1))], go(0)), ([], []))

    def test_blocks_that_are_not_reached(self):
        program = (10, [([], STOP), ([tell(name("b"))], go(0)), ([put("b", name("a"))], go(1))])
        self.assertEqual(wanted(program), [([], []), (["b"], []), (["a"], ["b"])])

    def test_a_use_that_is_not_reached_from_the_block_is_not_wanted(self):
        program = (10, [([], choose(number(0), 1, 2)), ([], STOP), ([tell(name("a"))], STOP)])
        self.assertEqual(wanted(program), [(["a"], ["a"]), ([], []), (["a"], [])])

    def test_a_name_that_is_put_on_one_way_only(self):
        program = (10, [([], choose(number(1), 1, 2)), ([put("a", number(1))], go(3)), ([], go(3)),
                        ([tell(name("a"))], STOP)])
        self.assertEqual(wanted(program), [(["a"], ["a"]), ([], ["a"]), (["a"], ["a"]), (["a"], [])])

    def test_python_order(self):
        deeds = [tell(name(text)) for text in ["b", "ab", "a", "aa", "b", "aaaaaa", "zz"]]
        order = ["a", "aa", "aaaaaa", "ab", "b", "zz"]
        self.assertEqual(one_block(deeds, go(0)), (order, order))

    def test_names_like_words(self):
        for word in ["plus", "below", "number", "name", "put", "stop"]:
            self.assertEqual(one_block([put("x", name(word)), tell(name("x"))], STOP), ([word], []))

    def test_no_deeds(self):
        self.assertEqual(wanted((2, [([], STOP)])), [([], [])])
        self.assertEqual(wanted(shape([1], [])), [([], []), ([], [])])

    def test_kinds(self):
        for each in wanted(LOOP):
            self.assertEqual([type(each), type(each[0]), type(each[1])], [tuple, list, list])

    def test_against_ways(self):
        for seed in range(300):
            program = made_program(seed, 1 + seed % 24, names=1 + seed % 20, deeds=seed % 9)
            self.assertEqual(wanted(program), wanted_by_ways(program), seed)

    def test_beyond_the_bounds(self):
        many = 700
        program = (10, [([], go(block + 1)) for block in range(many)] + [([tell(name("a"))], STOP)])
        self.assertEqual(wanted(program), [(["a"], ["a"])] * many + [(["a"], [])])
        self.assertEqual(want_way(program, 0, "a"), list(range(many + 1)))
        program = made_program(3, 100, names=150, deeds=30)
        self.assertEqual(wanted(program), wanted_by_ways(program))

    def test_by_name_of_the_argument(self):
        self.assertEqual(wanted(program=(2, [([], STOP)])), [([], [])])


class WantWay(unittest.TestCase):
    def check_way(self, program, block, text):
        """Looks that a way to a use ahead of any put is told. Tells it."""
        way = want_way(program, block, text)
        self.assertIs(type(way), list)
        self.assertEqual(way[0], block)
        for here, there in zip(way, way[1:]):
            self.assertIn(there, ends_of(program, here))
            self.assertNotIn(("put", text), events(*program[1][here]))
        self.assertEqual(first_event(program, way[-1], text), "use")
        return way

    def test_ordinary(self):
        self.assertEqual(self.check_way(LOOP, 0, "d"), [0, 2])
        self.assertIn(self.check_way(LOOP, 0, "a"), [[0, 1], [0, 2]])
        self.assertEqual(self.check_way(LOOP, 1, "d"), [1, 2])

    def test_used_at_once(self):
        self.assertEqual(self.check_way(LOOP, 1, "a")[0], 1)
        self.assertEqual(want_way(LOOP, 2, "a"), [2])
        self.assertEqual(want_way(LOOP, 0, "c"), [0])
        self.assertEqual(want_way((10, [([put("a", name("a"))], STOP)]), 0, "a"), [0])

    def test_not_wanted(self):
        for block, text in [(0, "b"), (0, "e"), (1, "c"), (2, "b"), (3, "a"), (3, "d"), (4, "d")]:
            self.assertIsNone(want_way(LOOP, block, text))

    def test_put_ahead_of_the_use(self):
        self.assertIsNone(want_way((10, [([put("a", number(1)), tell(name("a"))], go(0))]), 0, "a"))
        self.assertIsNone(want_way((10, [([put("a", number(1))], choose(name("a"), 0, 0))]), 0, "a"))
        self.assertIsNone(want_way((10, [([put("a", number(1))], go(1)), ([tell(name("a"))], STOP)]), 0, "a"))

    def test_from_a_block_that_is_not_reached(self):
        self.assertEqual(self.check_way(LOOP, 3, "e"), [3, 4])
        self.assertEqual(self.check_way(LOOP, 4, "b"), [4, 1])

    def test_a_way_past_puts(self):
        program = (10, [([], choose(number(1), 1, 2)), ([put("a", number(1))], go(4)), ([], go(3)), ([], go(4)),
                        ([tell(name("a"))], STOP)])
        self.assertEqual(self.check_way(program, 0, "a"), [0, 2, 3, 4])

    def test_a_loop_that_never_uses(self):
        program = (10, [([], go(0)), ([tell(name("a"))], STOP)])
        self.assertIsNone(want_way(program, 0, "a"))

    def test_against_ways(self):
        for seed in range(120):
            program = made_program(seed, 1 + seed % 24, deeds=seed % 3)
            for block, (texts, behind) in enumerate(wanted_by_ways(program)):
                for text in names_of(program):
                    if text in texts:
                        self.check_way(program, block, text)
                    else:
                        self.assertIsNone(want_way(program, block, text))

    def test_what_is_no_block(self):
        for wrong in (-1, -2, -5, 5, 6, FAR, -FAR):
            with self.assertRaises(NoBlock):
                want_way(LOOP, wrong, "a")

    def test_what_is_no_name(self):
        for wrong in ["f", "", "A", "aa", "abcdefg", "a ", "a1", "put", "number", "a" * 20000, "\n"]:
            for block in range(5):
                with self.assertRaises(NoName):
                    want_way(LOOP, block, wrong)

    def test_a_name_of_a_block_that_is_not_reached_is_one(self):
        self.assertIsNone(want_way(LOOP, 0, "e"))
        self.assertRaises(NoName, want_way, (10, [([], STOP)]), 0, "a")

    def test_the_refusals_in_their_order(self):
        for wrong in (-1, 5, FAR):
            with self.assertRaises(NoBlock) as caught:
                want_way(LOOP, wrong, "f")
            self.assertEqual(type(caught.exception).__bases__, (OnceError,))

    def test_by_names_of_the_arguments(self):
        self.assertEqual(want_way(name="d", block=1, program=LOOP), [1, 2])


class Asking(unittest.TestCase):
    def test_the_answers_are_the_askers_own(self):
        check_asking(self, wanted, LOOP)
        for seed in range(40):
            program = made_program(seed, 1 + seed % 24)
            check_asking(self, wanted, program)
            for text in names_of(program):
                check_asking(self, want_way, program, seed % len(program[1]), text)

    def test_a_refusal_changes_nothing(self):
        program = copy.deepcopy(LOOP)
        self.assertRaises(NoBlock, want_way, program, 5, "a")
        self.assertRaises(NoName, want_way, program, 0, "f")
        self.assertEqual(program, LOOP)

    def test_a_later_change_of_what_was_handed_in_changes_no_answer(self):
        program = copy.deepcopy(LOOP)
        answers = [wanted(program), want_way(program, 0, "d")]
        kept = copy.deepcopy(answers)
        program[1][2] = ([], STOP)
        self.assertEqual(answers, kept)
        self.assertIsNone(want_way(program, 0, "d"))

    def test_twenty_four_blocks_with_twenty_names_soon(self):
        begun = time.perf_counter()
        for seed in range(5):
            program = made_program(seed, 24, names=20, stops=False)
            wanted(program)
            for text in names_of(program):
                want_way(program, 0, text)
        self.assertLess(time.perf_counter() - begun, 5)


if __name__ == "__main__":
    unittest.main()
