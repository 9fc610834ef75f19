import copy
import unittest

from oncenames.errors import NoBlock
from oncenames.ways import around, into, is_master, masters, nearest_masters, reached_leads, spans_of
from samples import check_asking, choose, ends_of, made_program, number, shape

# 0 leads to 1 and 2, both to 3, that to itself and 4; 5 and 6 aren't reached, but lead to others and to one another.
DIAMOND = shape([1, 2], [3], [3], [3, 4], [], [6, 3], [5])
CHAIN = shape([1], [2], [3], [])
LOOP = shape([1], [2, 3], [1], [0])
FAR = 10 ** 5000


def plain_ways(program):
    """All ways from the begin on which no block stands twice."""
    ways, line = [], [[-1]]
    while line:
        way = line.pop()
        ways.append(way)
        line += [way + [block] for block in set(ends_of(program, way[-1])) if block not in way]
    return ways


def masters_by_ways(program):
    """Masters by all plain ways one by one: what a way goes through, a plain way with the same ends may go round."""
    ways = plain_ways(program)
    told = []
    for block in range(len(program[1])):
        through = [set(way) for way in ways if way[-1] == block]
        told.append(sorted(set.intersection(*through) - {-1}) if through else None)
    return told


def chain(many):
    return shape(*[[block + 1] for block in range(many - 1)], [])


class Into(unittest.TestCase):
    def test_ordinary(self):
        self.assertEqual(into(DIAMOND), [[-1], [0], [0], [1, 2, 3, 5], [3], [6], [5]])
        self.assertEqual(into(CHAIN), [[-1], [0], [1], [2]])

    def test_the_begin_leads_to_block_0_beside_others(self):
        self.assertEqual(into(LOOP), [[-1, 3], [0, 2], [1], [1]])
        self.assertEqual(into(shape([0])), [[-1, 0]])
        self.assertEqual(into(shape([])), [[-1]])
        self.assertEqual(into(shape([], [0], [0, 1])), [[-1, 1, 2], [2], []])

    def test_both_blocks_alike_count_once(self):
        self.assertEqual(into(shape([1, 1], [1, 1])), [[-1], [0, 1]])
        self.assertEqual(into((2, [([], choose(number(1), 0, 0))])), [[-1, 0]])

    def test_a_choice_by_a_number_leads_both_ways(self):
        self.assertEqual(into((2, [([], choose(number(1), 0, 1)), ([], ("stop",))])), [[-1, 0], [0]])

    def test_rising_whatever_the_order_in_the_endings(self):
        self.assertEqual(into(shape([3, 1], [3, 0], [3, 2], [])), [[-1, 1], [0], [2], [0, 1, 2]])

    def test_against_the_endings(self):
        for seed in range(200):
            program = made_program(seed, 1 + seed % 24)
            sources = range(-1, len(program[1]))
            self.assertEqual(into(program), [[source for source in sources if block in ends_of(program, source)]
                                             for block in range(len(program[1]))])

    def test_by_name_of_the_argument(self):
        self.assertEqual(into(program=shape([])), [[-1]])


class Masters(unittest.TestCase):
    def test_ordinary(self):
        self.assertEqual(masters(DIAMOND), [[0], [0, 1], [0, 2], [0, 3], [0, 3, 4], None, None])
        self.assertEqual(masters(CHAIN), [[0], [0, 1], [0, 1, 2], [0, 1, 2, 3]])
        self.assertEqual(masters(LOOP), [[0], [0, 1], [0, 1, 2], [0, 1, 3]])

    def test_rising_though_the_way_falls(self):
        self.assertEqual(masters(shape([3], [], [1], [2])), [[0], [0, 1, 2, 3], [0, 2, 3], [0, 3]])

    def test_a_block_that_leads_to_itself(self):
        self.assertEqual(masters(shape([0])), [[0]])
        self.assertEqual(masters(shape([1], [1, 2], [])), [[0], [0, 1], [0, 1, 2]])

    def test_blocks_that_are_not_reached(self):
        self.assertEqual(masters(shape([], [1], [3], [2, 0])), [[0], None, None, None])

    def test_both_blocks_alike(self):
        self.assertEqual(masters(shape([1, 1], [])), [[0], [0, 1]])

    def test_a_choice_by_a_number_leads_both_ways(self):
        self.assertEqual(masters((2, [([], choose(number(1), 1, 2)), ([], ("go", 2)), ([], ("stop",))])),
                         [[0], [0, 1], [0, 2]])

    def test_a_loop_with_two_ways_in(self):
        self.assertEqual(masters(shape([1, 2], [2], [1, 3], [])), [[0], [0, 1], [0, 2], [0, 2, 3]])

    def test_against_all_ways(self):
        reached = []
        for seed in range(300):
            program = made_program(seed, 1 + seed % 7, deeds=1)
            self.assertEqual(masters(program), masters_by_ways(program), seed)
            reached += masters(program)
        self.assertIn(None, reached)
        self.assertGreater(max(len(each) for each in reached if each), 4)

    def test_twenty_four_blocks(self):
        self.assertEqual(masters(chain(24)), [list(range(block + 1)) for block in range(24)])

    def test_beyond_the_bounds(self):
        many = 600
        self.assertEqual(masters(chain(many)), [list(range(block + 1)) for block in range(many)])
        self.assertEqual(into(chain(many)), [[block - 1] for block in range(many)])
        self.assertEqual(around(chain(many), many - 1, many - 2), list(range(-1, many - 1)))

    def test_by_name_of_the_argument(self):
        self.assertEqual(masters(program=shape([])), [[0]])


class NearestMasters(unittest.TestCase):
    def test_against_masters(self):
        for seed in range(300):
            program = made_program(seed, 1 + seed % 40, deeds=1, stops=seed % 2 == 0)
            told = masters(program)
            nearest = nearest_masters(reached_leads(program))
            spans = spans_of(nearest)
            self.assertEqual(sorted(nearest), [block for block, above in enumerate(told) if above is not None])
            for b in nearest:
                self.assertEqual([a for a in sorted(nearest) if is_master(spans, a, b)], told[b])
                self.assertTrue(is_master(spans, -1, b))
                self.assertFalse(is_master(spans, b, -1))
                above = nearest[b]
                self.assertEqual([a for a in told[b] if a != b], [] if above == -1 else told[above])


class Around(unittest.TestCase):
    def check_way(self, program, a, b):
        """Looks that a way from the begin to b is told that doesn't go through a. Tells it."""
        way = around(program, a, b)
        self.assertIs(type(way), list)
        self.assertEqual((way[0], way[-1]), (-1, b))
        self.assertNotIn(a, way)
        for block, onward in zip(way, way[1:]):
            self.assertIn(onward, ends_of(program, block))
        return way

    def test_where_a_does_not_master_b(self):
        self.assertEqual(self.check_way(DIAMOND, 1, 3), [-1, 0, 2, 3])
        self.assertEqual(self.check_way(DIAMOND, 2, 3), [-1, 0, 1, 3])
        self.assertEqual(self.check_way(DIAMOND, 2, 1), [-1, 0, 1])
        self.assertEqual(self.check_way(CHAIN, 3, 0), [-1, 0])
        self.assertEqual(self.check_way(shape([1, 2], [], []), 2, 0), [-1, 0])

    def test_where_a_masters_b(self):
        for a, b in [(0, 1), (0, 4), (3, 4)]:
            self.assertIsNone(around(DIAMOND, a, b))

    def test_where_a_is_b(self):
        for block in range(5):
            self.assertIsNone(around(DIAMOND, block, block))
        self.assertIsNone(around(shape([0]), 0, 0))

    def test_where_a_is_not_reached(self):
        self.check_way(DIAMOND, 5, 3)
        self.check_way(DIAMOND, 6, 0)

    def test_where_b_is_not_reached(self):
        for a in range(7):
            for b in (5, 6):
                with self.assertRaises(NoBlock):
                    around(DIAMOND, a, b)

    def test_what_is_no_block(self):
        for wrong in (-1, -2, 7, 8, -7, FAR, -FAR):
            for right in (0, 3, 5):
                with self.assertRaises(NoBlock):
                    around(DIAMOND, wrong, right)
            for right in (0, 3, 5):
                with self.assertRaises(NoBlock):
                    around(DIAMOND, right, wrong)
            with self.assertRaises(NoBlock):
                around(DIAMOND, wrong, wrong)

    def test_the_reasons_in_their_order(self):
        for a, b, why in [(7, 7, "a is no block"), (-1, 5, "a is no block"), (7, 5, "a is no block"),
                          (0, 7, "b is no block"), (5, -1, "b is no block"), (5, 5, "b isn't reached")]:
            with self.assertRaises(NoBlock) as caught:
                around(DIAMOND, a, b)
            self.assertEqual(str(caught.exception), why)

    def test_against_masters(self):
        for seed in range(150):
            program = made_program(seed, 1 + seed % 7, deeds=1)
            for b, above in enumerate(masters_by_ways(program)):
                for a in range(len(program[1])):
                    if above is None:
                        self.assertRaises(NoBlock, around, program, a, b)
                    elif a in above:
                        self.assertIsNone(around(program, a, b))
                    else:
                        self.check_way(program, a, b)

    def test_twenty_four_blocks_with_very_many_ways(self):
        rows = [[block + 1, block + 2] for block in range(22)] + [[23], [0]]
        program = shape(*rows)
        for a in range(1, 23):
            self.check_way(program, a, 23)
        self.assertEqual(masters(program)[23], [0, 23])

    def test_by_names_of_the_arguments(self):
        self.assertEqual(around(b=3, program=DIAMOND, a=1), [-1, 0, 2, 3])
        self.assertIsNone(around(DIAMOND, b=4, a=3))


class Asking(unittest.TestCase):
    def test_the_answers_are_the_askers_own(self):
        for seed in range(60):
            program = made_program(seed, 1 + seed % 24)
            check_asking(self, into, program)
            check_asking(self, masters, program)
            for b, above in enumerate(masters(program)):
                if above is not None:
                    check_asking(self, around, program, seed % len(program[1]), b)

    def test_a_refusal_changes_nothing(self):
        program = copy.deepcopy(DIAMOND)
        self.assertRaises(NoBlock, around, program, 9, 0)
        self.assertRaises(NoBlock, around, program, 0, 5)
        self.assertEqual(program, DIAMOND)

    def test_a_later_change_of_what_was_handed_in_changes_no_answer(self):
        program = copy.deepcopy(CHAIN)
        answers = [into(program), masters(program), around(program, 3, 2)]
        kept = copy.deepcopy(answers)
        program[1][0] = ([], ("go", 3))
        self.assertEqual(answers, kept)
        self.assertEqual(masters(program), [[0], None, None, [0, 3]])


if __name__ == "__main__":
    unittest.main()
