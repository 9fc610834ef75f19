import copy
import time
import unittest

from oncenames.errors import NoBlock, NoName, OnceError
from oncenames.meets import joins_of, meet
from oncenames.programs import names_of
from oncenames.wanted import wanted
from oncenames.ways import masters
from samples import (STOP, check_asking, choose, ends_of, events, go, made_program, name, number, put, shape, shapes,
                     subsets, tell, with_puts)

FAR = 10 ** 5000
# 0 leads to 1 and 2, both to 3, that on to 4; a is put in 1, b in 1 and 2, c in 4 alone; 5 isn't reached and puts a, e.
DIAMOND = (10, [
    ([], choose(name("d"), 1, 2)),
    ([put("a", number(1)), put("b", number(1))], go(3)),
    ([put("b", number(2))], go(3)),
    ([], go(4)),
    ([put("c", name("c")), tell(name("a")), tell(name("b"))], STOP),
    ([put("a", number(1)), put("e", number(1))], choose(name("c"), 3, 0)),
])


def reached(program):
    return [block for block, above in enumerate(masters(program)) if above is not None]


def places_of(program, text):
    """The put places of the name."""
    return [-1] + [block for block in reached(program) if ("put", text) in events(*program[1][block])]


def plain_ways_to(program, place, block):
    """All ways two long at least from the place to the block; but that they may begin there, no block stands twice."""
    ways, line = [], [[place]]
    while line:
        way = line.pop()
        for onward in set(ends_of(program, way[-1])):
            if onward == block:
                ways.append(way + [onward])
            elif onward not in way:
                line.append(way + [onward])
    return ways


def meets_by_ways(program, block, text):
    """Whether two ways meet first at the block, by all plain ways one by one."""
    ways = [way for place in places_of(program, text) for way in plain_ways_to(program, place, block)]
    return any(one[0] != other[0] and not set(one[:-1]) & set(other[:-1]) for one in ways for other in ways)


def comes_past(program, places, block, left_out):
    """Whether a way two long at least leads from one of the places to the block, not through left_out."""
    line = [place for place in places if place != left_out]
    seen = set(line)
    while line:
        for onward in ends_of(program, line.pop()):
            if onward == block:
                return True
            if onward != left_out and onward not in seen:
                seen.add(onward)
                line.append(onward)
    return False


class Checks(unittest.TestCase):
    def check_way(self, program, way, block, text):
        self.assertIs(type(way), list)
        self.assertGreaterEqual(len(way), 2)
        self.assertEqual(way[-1], block)
        self.assertIn(way[0], places_of(program, text))
        self.assertNotIn(block, way[1:-1])
        for here, there in zip(way, way[1:]):
            self.assertIn(there, ends_of(program, here))

    def check_meet(self, program, block, text):
        """Looks at what is told of the block and the name. Tells whether two ways meet first there."""
        told = meet(program, block, text)
        self.assertIs(type(told), tuple)
        if told[0] == "meet":
            word, one, other = told
            self.check_way(program, one, block, text)
            self.check_way(program, other, block, text)
            self.assertNotEqual(one[0], other[0])
            self.assertFalse(set(one[:-1]) & set(other[:-1]) - {block})
            return True
        word, through = told
        self.assertEqual(word, "through")
        self.assertNotEqual(through, block)
        self.assertIn(through, range(-1, len(program[1])))
        self.assertFalse(comes_past(program, places_of(program, text), block, through))
        return False

    def check_joins(self, program):
        """Looks at all of a program: what meet tells is right, and joins stand just where it says. Tells the joins."""
        begins = wanted(program)
        joins = [(block, text) for block in reached(program) for text in names_of(program)
                 if self.check_meet(program, block, text) and text in begins[block][0]]
        self.assertEqual(joins_of(program), joins)
        return joins


class JoinsOf(Checks):
    def test_ordinary(self):
        self.assertEqual(joins_of(DIAMOND), [(3, "a"), (3, "b")])
        self.check_joins(DIAMOND)

    def test_none_where_nothing_is_put_or_used(self):
        self.assertEqual(joins_of((10, [([], STOP)])), [])
        self.assertEqual(joins_of(shape([1, 2], [0], [0, 2])), [])
        self.assertEqual(joins_of(with_puts((10, [([], go(0))]), "a", [0])), [])

    def test_block_0_where_another_block_leads_to_it(self):
        program = (10, [([tell(name("a"))], go(1)), ([put("a", number(1))], go(0))])
        self.assertEqual(joins_of(program), [(0, "a")])
        told = meet(program, 0, "a")
        self.assertEqual((told[0], sorted(told[1:])), ("meet", [[-1, 0], [1, 0]]))
        self.check_joins(program)

    def test_block_0_that_leads_to_itself(self):
        counted = [put("a", ("plus", name("a"), number(1)))]
        self.assertEqual(joins_of((10, [(counted, go(0))])), [(0, "a")])
        self.assertEqual(joins_of((10, [([put("a", number(1)), tell(name("a"))], go(0))])), [])
        self.assertEqual(joins_of((10, [([tell(name("a"))], go(0))])), [])

    def test_not_where_the_name_is_not_wanted(self):
        program = (10, [([], choose(name("b"), 1, 2)), ([put("a", number(1))], go(3)), ([], go(3)),
                        ([put("a", number(2)), tell(name("a"))], STOP)])
        self.assertEqual(joins_of(program), [])
        self.assertTrue(self.check_meet(program, 3, "a"))

    def test_further_joins_behind_a_join(self):
        # The only put is in 1: ways from it and from the begin meet in 3, and then, around 3, in 5.
        program = (10, [([], choose(name("b"), 1, 2)), ([put("a", number(1))], go(3)), ([], choose(name("b"), 3, 4)),
                        ([tell(name("a"))], go(5)), ([tell(name("a"))], go(5)), ([tell(name("a"))], STOP)])
        self.assertEqual(joins_of(program), [(3, "a"), (5, "a")])
        self.check_joins(program)

    def test_python_order(self):
        program = (10, [([], choose(name("q"), 0, 1)), ([tell(name("b")), put("b", name("ab")), put("ab", name("a"))],
                                                        choose(name("q"), 0, 1))])
        self.assertEqual(joins_of(program), [(0, "ab"), (0, "b"), (1, "ab"), (1, "b")])

    def test_puts_of_blocks_that_are_not_reached_do_not_count(self):
        program = (10, [([tell(name("a"))], STOP), ([put("a", number(1))], go(0))])
        self.assertEqual(joins_of(program), [])
        self.assertEqual(meet(program, 0, "a"), ("through", -1))

    def test_a_loop_with_two_ways_in(self):
        program = (10, [([], choose(name("b"), 1, 2)), ([tell(name("a"))], go(2)),
                        ([put("a", number(1))], choose(name("b"), 1, 3)), ([tell(name("a"))], STOP)])
        self.assertEqual(joins_of(program), [(1, "a")])
        self.check_joins(program)

    def test_against_all_ways(self):
        told = 0
        for seed in range(200):
            program = made_program(seed, 1 + seed % 7, names=3, deeds=2)
            begins = wanted(program)
            joins = [(block, text) for block in reached(program) for text in names_of(program)
                     if text in begins[block][0] and meets_by_ways(program, block, text)]
            self.assertEqual(joins_of(program), joins, seed)
            told += len(joins)
        self.assertGreater(told, 100)

    def test_against_meet(self):
        told = 0
        for seed in range(100):
            program = made_program(seed, 1 + seed % 24, names=1 + seed % 20, deeds=1 + seed % 3, stops=seed % 2 == 0)
            told += len(self.check_joins(program))
        self.assertGreater(told, 500)

    def test_kinds(self):
        told = joins_of(DIAMOND)
        self.assertEqual([type(told), type(told[0])], [list, tuple])

    def test_by_name_of_the_argument(self):
        self.assertEqual(joins_of(program=DIAMOND), [(3, "a"), (3, "b")])

    def test_beyond_the_bounds(self):
        self.check_joins(made_program(1, 60, names=30, deeds=12))
        many = 500
        ladder = [([put("a", name("a"))], choose(name("b"), block + 1, 0)) for block in range(many)] + [([], STOP)]
        self.assertEqual(joins_of((10, ladder)), [(0, "a")])


class Meet(Checks):
    def test_ordinary(self):
        told = meet(DIAMOND, 3, "b")
        self.assertEqual(sorted(told[1:]), [[1, 3], [2, 3]])
        told = meet(DIAMOND, 3, "a")
        self.assertEqual(sorted(told[1:]), [[-1, 0, 2, 3], [1, 3]])
        for block in (0, 1, 2, 4):
            for text in "abcde":
                self.assertFalse(self.check_meet(DIAMOND, block, text))

    def test_where_the_name_is_not_wanted(self):
        program = with_puts(shape([1, 2], [3], [3], []), "b", [1])
        self.assertNotIn("b", wanted(program)[3][0])
        self.assertTrue(self.check_meet(program, 3, "b"))

    def test_through_the_begin(self):
        self.assertEqual(meet(DIAMOND, 0, "a"), ("through", -1))
        self.assertEqual(meet(shape([0, 1], []), 0, "a"), ("through", -1))
        self.assertEqual(meet(shape([1], [0, 1]), 0, "a"), ("through", -1))
        self.assertEqual(meet(with_puts(shape([1], []), "a", [0]), 0, "a"), ("through", -1))

    def test_through_a_block_alone(self):
        self.assertEqual(meet(with_puts(shape([1], []), "a", [0]), 1, "a"), ("through", 0))
        self.assertEqual(meet(with_puts(shape([1, 2], [3], [3], [4], []), "a", [1, 2]), 4, "a"), ("through", 3))

    def test_one_of_the_ways_begins_at_the_block_itself(self):
        told = meet(with_puts(shape([0]), "a", [0]), 0, "a")
        self.assertEqual((told[0], sorted(told[1:])), ("meet", [[-1, 0], [0, 0]]))
        told = meet(with_puts(shape([1], [1, 2], []), "a", [1]), 1, "a")
        self.assertEqual((told[0], sorted(told[1:])), ("meet", [[-1, 0, 1], [1, 1]]))
        told = meet(with_puts(shape([1], [2, 3], [1], []), "a", [1]), 1, "a")
        self.assertEqual((told[0], sorted(told[1:])), ("meet", [[-1, 0, 1], [1, 2, 1]]))

    def test_a_put_at_the_block_itself_that_leads_not_back(self):
        self.assertFalse(self.check_meet(with_puts(shape([1], [2], []), "a", [1]), 1, "a"))

    def test_all_ways_through_a_neck(self):
        # Both puts lead to 4, but through 3 alone.
        program = with_puts(shape([1, 2], [3], [3], [4, 5], [5], []), "a", [1, 2])
        self.assertEqual(meet(program, 4, "a"), ("through", 3))
        self.assertEqual(meet(program, 5, "a"), ("through", 3))

    def test_ways_that_must_be_gone_otherwise_than_the_shortest(self):
        # The shortest way from 0 is by 1 and 4, and so crosses both ways that are apart: 0, 1, 3, 6 and 2, 4, 6.
        program = with_puts(shape([1, 2], [4, 3], [4], [5], [6], [6], []), "a", [0, 2])
        self.assertTrue(self.check_meet(program, 6, "a"))
        program = with_puts(shape([1, 2], [2, 3], [4], [4], []), "a", [1, 2])
        self.assertTrue(self.check_meet(program, 4, "a"))

    def test_every_shape_of_three_blocks(self):
        for program in shapes(3):
            for places in subsets(range(3)):
                self.check_joins(with_puts(program, "a", places))

    def test_against_all_ways(self):
        for seed in range(150):
            program = made_program(seed, 1 + seed % 7, names=3, deeds=2)
            for block in reached(program):
                for text in names_of(program):
                    self.assertEqual(self.check_meet(program, block, text), meets_by_ways(program, block, text))

    def test_what_is_no_block(self):
        for wrong in (-1, -2, -6, 6, 7, FAR, -FAR):
            with self.assertRaises(NoBlock):
                meet(DIAMOND, wrong, "a")

    def test_a_block_that_is_not_reached(self):
        for text in "abcde":
            with self.assertRaises(NoBlock):
                meet(DIAMOND, 5, text)
        self.assertRaises(NoBlock, meet, (10, [([tell(name("a"))], STOP), ([], go(0))]), 1, "a")

    def test_what_is_no_name(self):
        for wrong in ["f", "", "A", "aa", "abcdefg", "a ", "a1", "put", "number", "start", "a" * 20000, "\n"]:
            for block in range(5):
                with self.assertRaises(NoName):
                    meet(DIAMOND, block, wrong)

    def test_a_name_of_a_block_that_is_not_reached_is_one(self):
        self.assertFalse(self.check_meet(DIAMOND, 3, "e"))

    def test_the_refusals_in_their_order(self):
        for wrong in (-1, 5, 6, FAR):
            with self.assertRaises(NoBlock) as caught:
                meet(DIAMOND, wrong, "f")
            self.assertEqual(type(caught.exception).__bases__, (OnceError,))

    def test_by_names_of_the_arguments(self):
        self.assertEqual(meet(name="a", block=0, program=DIAMOND), ("through", -1))


class Asking(unittest.TestCase):
    def test_the_answers_are_the_askers_own(self):
        for seed in range(30):
            program = made_program(seed, 1 + seed % 24)
            check_asking(self, joins_of, program)
            for block in reached(program):
                for text in names_of(program)[:2]:
                    check_asking(self, meet, program, block, text)

    def test_a_refusal_changes_nothing(self):
        program = copy.deepcopy(DIAMOND)
        self.assertRaises(NoBlock, meet, program, 5, "a")
        self.assertRaises(NoName, meet, program, 0, "f")
        self.assertEqual(program, DIAMOND)

    def test_a_later_change_of_what_was_handed_in_changes_no_answer(self):
        program = copy.deepcopy(DIAMOND)
        answers = [joins_of(program), meet(program, 3, "a")]
        kept = copy.deepcopy(answers)
        program[1][1][0].clear()
        self.assertEqual(answers, kept)
        self.assertEqual(joins_of(program), [(3, "b")])

    def test_twenty_four_blocks_with_twenty_names_soon(self):
        ladder = [([put("abcdefghijklmnopqrst"[(block + k) * 7 % 20], name("abcdefghijklmnopqrst"[(block + k) % 20]))
                   for k in range(8)], choose(name("a"), (block + 1) % 24, (block + 2) % 24)) for block in range(24)]
        for program in [(10, ladder)] + [made_program(seed, 24, names=20, stops=False) for seed in range(3)]:
            begun = time.perf_counter()
            joins_of(program)
            for block in reached(program):
                for text in names_of(program):
                    meet(program, block, text)
            self.assertLess(time.perf_counter() - begun, 5)


if __name__ == "__main__":
    unittest.main()
