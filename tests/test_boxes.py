import copy
import itertools
import random
import time
import unittest

from oncenames.boxes import boxes, shows_boxes
from oncenames.errors import NoForm, OnceError
from oncenames.forms import parted
from oncenames.ledback import led_back
from oncenames.looker import is_good
from samples import (STOP, check_asking, choose, ends_of_row, go, made_form, made_program, masters_by_reading, name,
                     number, once, one_row, put, tell)

A0, A1, A2, A3, A4 = [once("a", k) for k in range(5)]
B0, B1, B2, B3 = [once("b", k) for k in range(4)]
C0 = once("c", 0)
ONE = ("plus", name(A0), number(1))


def named(part):
    return [part[1]] if part[0] == "name" else []


def used_by_deed(deed):
    worth = deed[-1]
    return [which for part in (worth[1:] if len(worth) == 3 else (worth,)) for which in named(part)]


def wanted_by_reading(form, place, which):
    """Whether the once-name is wanted at the place (block, how many deeds stand ahead), going from place to place."""
    rows = {row[0]: row for row in form[1]}
    seen, line = set(), [place]
    while line:
        here = line.pop()
        if here in seen:
            continue
        seen.add(here)
        block, at = here
        row, joins, deeds, ending = rows[block]
        if at < len(deeds):
            if which in used_by_deed(deeds[at]):
                return True
            if deeds[at][0] != "put" or deeds[at][1] != which:
                line.append((block, at + 1))
            continue
        if ending[0] == "choose" and which in named(ending[1]):
            return True
        for end in ends_of_row(rows[block]):
            heads = rows[end][1]
            if any(which in named(part) for other, parts in heads for source, part in parts if source == block):
                return True
            if which not in [other for other, parts in heads]:
                line.append((end, 0))
    return False


def homes_by_reading(form):
    """For each once-name that is put or joined the place behind."""
    homes = {}
    for block, joins, deeds, ending in form[1]:
        homes.update({which: (block, 0) for which, parts in joins})
        homes.update({deed[1]: (block, at + 1) for at, deed in enumerate(deeds) if deed[0] == "put"})
    return homes


def there_by_reading(form):
    found = set(homes_by_reading(form))
    for block, joins, deeds, ending in form[1]:
        used = [which for deed in deeds for which in used_by_deed(deed)]
        used += named(ending[1]) if ending[0] == "choose" else []
        used += [which for other, parts in joins for source, part in parts for which in named(part)]
        found |= {which for which in used if which[1] == 0}
    return sorted(found)


def meets_by_reading(form):
    """The set of frozensets of two that meet."""
    there, homes = there_by_reading(form), homes_by_reading(form)
    joined = {which: row[0] for row in form[1] for which, parts in row[1]}
    found = set()
    for one, other in itertools.permutations(there, 2):
        meets = one in homes and wanted_by_reading(form, homes[one], other)
        meets = meets or (one in joined and other in joined and joined[one] == joined[other])
        if meets or one[1] == other[1] == 0:
            found.add(frozenset((one, other)))
    return found


def so_by_reading(form, told, meets):
    many, boxed, crowd = told
    there = there_by_reading(form)
    laid = dict(boxed)
    if [which for which, box in boxed] != there or not all(0 <= box < many for box in laid.values()):
        return False
    if any(laid[one] == laid[other] for one, other in map(tuple, meets)):
        return False
    if len(crowd) != many or len(set(crowd)) != many or not set(crowd) <= set(there):
        return False
    return all(frozenset(pair) in meets for pair in itertools.combinations(crowd, 2))


def greedy_by_reading(form, meets):
    """How many boxes are taken where all are laid in the order of masters, each in the least that is free."""
    homes = homes_by_reading(form)
    above = masters_by_reading({row[0]: ends_of_row(row) for row in form[1]})
    there = sorted(there_by_reading(form), key=lambda which: (len(above[homes[which][0]]), homes[which])
                   if which in homes else (0, (0, 0)))
    laid = {}
    for which in there:
        taken = {laid[other] for other in laid if frozenset((which, other)) in meets}
        laid[which] = min(set(range(len(there))) - taken)
    return max(laid.values(), default=-1) + 1


class Looks(unittest.TestCase):
    def check_boxes(self, form):
        """Looks at what is told of the form by all that is promised. Tells how many boxes there are."""
        self.assertIs(is_good(form), True)
        told = boxes(form)
        meets = meets_by_reading(form)
        self.assertIs(so_by_reading(form, told, meets), True, (form, told))
        self.assertEqual(told[0], greedy_by_reading(form, meets))
        self.assertIs(shows_boxes(form, told), True)
        return told[0]


class Boxes(Looks):
    def test_no_once_name(self):
        for form in [one_row([]), one_row([tell(number(3))], go(0)), one_row([], choose(number(0), 0, 0))]:
            self.assertEqual(boxes(form), (0, [], []))
            self.assertIs(shows_boxes(form, (0, [], [])), True)

    def test_one(self):
        self.assertEqual(boxes(one_row([tell(name(A0))])), (1, [(A0, 0)], [A0]))
        self.assertEqual(boxes(one_row([put(A1, number(4))])), (1, [(A1, 0)], [A1]))

    def test_one_behind_the_other_takes_one_box(self):
        form = one_row([put(A1, ONE), put(A2, ("plus", name(A1), number(1))), put(A3, name(A2)), tell(name(A3))])
        self.assertEqual(boxes(form)[:2], (1, [(A0, 0), (A1, 0), (A2, 0), (A3, 0)]))

    def test_together_they_take_two(self):
        form = one_row([put(A1, ONE), put(A2, ONE), tell(name(A1)), tell(name(A2))])
        self.assertEqual(self.check_boxes(form), 2)
        laid = dict(boxes(form)[1])
        self.assertNotEqual(laid[A1], laid[A2])

    def test_what_is_not_used_needs_a_box_where_it_is_put(self):
        self.assertEqual(self.check_boxes(one_row([put(A1, ONE), put(A2, ONE), tell(name(A1))])), 2)
        self.assertEqual(self.check_boxes(one_row([put(A2, ONE), put(A1, ONE), tell(name(A1))])), 2)
        self.assertEqual(self.check_boxes(one_row([put(A2, number(1)), put(A1, number(1)), tell(name(A1))])), 1)

    def test_given_names_meet_each_other(self):
        form = one_row([tell(name(A0)), put(A1, number(1)), tell(name(A1)), tell(name(B0)), tell(name(C0))])
        self.assertEqual(self.check_boxes(form), 3)
        self.assertEqual(boxes(form)[2], [A0, B0, C0])
        self.assertEqual(self.check_boxes(one_row([tell(name(A0)), tell(name(B0))])), 2)

    def test_a_given_name_that_is_used_from_the_begin_alone(self):
        joins = [(A1, [(-1, name(A0))]), (B1, [(-1, name(B0))]), (B2, [(-1, name(B0))])]
        form = one_row([tell(name(A1)), tell(name(B1)), tell(name(B2))], STOP, joins)
        self.assertEqual([which for which, box in boxes(form)[1]], [A0, A1, B0, B1, B2])
        self.assertEqual(self.check_boxes(form), 3)
        self.assertEqual(self.check_boxes(one_row([], STOP, joins[:1])), 1)

    def test_joins_of_one_block_meet_though_none_is_used(self):
        joins = [(A1, [(-1, number(0))]), (A2, [(-1, number(0))]), (A3, [(-1, number(0))])]
        self.assertEqual(self.check_boxes(one_row([], STOP, joins)), 3)
        apart = (10, [(0, joins[:1], [], go(1)), (1, [(A2, [(0, number(0))])], [], STOP)])
        self.assertEqual(self.check_boxes(apart), 1)

    def test_a_part_is_used_at_the_end_of_its_from(self):
        # What a join takes is wanted no more behind it, and may share its box.
        rows = [(0, [], [put(A1, ONE)], choose(name(A1), 1, 2)), (1, [], [put(A2, number(3))], go(2)),
                (2, [(A3, [(0, name(A1)), (1, name(A2))])], [tell(name(A3))], STOP)]
        self.assertEqual(self.check_boxes((10, rows)), 1)
        rows[1] = (1, [], [put(A2, number(3)), tell(name(A1))], go(2))
        self.assertEqual(self.check_boxes((10, rows)), 2)

    def test_a_join_that_is_wanted_behind_itself(self):
        joins = [(A1, [(-1, number(0)), (0, name(A2))])]
        count = put(A2, ("plus", name(A1), number(1)))
        self.assertEqual(self.check_boxes(one_row([count, tell(name(A2))], go(0), joins)), 1)
        self.assertEqual(self.check_boxes(one_row([count, tell(name(A1))], go(0), joins)), 2)

    def test_joins_that_exchange_their_names(self):
        joins = [(A1, [(-1, number(0)), (0, name(B1))]), (B1, [(-1, number(1)), (0, name(A1))])]
        self.assertEqual(self.check_boxes(one_row([tell(name(A1))], go(0), joins)), 2)

    def test_a_given_name_is_wanted_round_a_loop(self):
        joins = [(A1, [(-1, number(0)), (0, name(A2))])]
        form = one_row([put(A2, ("plus", name(A1), name(B0)))], go(0), joins)
        self.assertEqual(self.check_boxes(form), 2)

    def test_two_ways_share_boxes(self):
        rows = [(0, [], [put(A1, ONE)], choose(name(A1), 1, 2))]
        rows += [(block, [], [put(once("b", block), ONE), put(once("c", block), ONE), tell(name(once("b", block))),
                              tell(name(once("c", block)))], go(3)) for block in (1, 2)]
        rows += [(3, [], [], STOP)]
        self.assertEqual(self.check_boxes((10, rows)), 2)

    def test_a_use_in_a_choice(self):
        rows = [(0, [], [put(A1, number(1)), put(A2, number(2))], choose(name(A1), 1, 2)),
                (1, [], [], choose(name(A2), 2, 2)), (2, [], [], STOP)]
        self.assertEqual(self.check_boxes((10, rows)), 2)

    def test_great_numbers(self):
        far = 999999999999999
        rows = [(0, [], [put(once("zzzzzz", 999), ONE)], go(far)),
                (far, [(A1, [(0, name(once("zzzzzz", 999))), (far, name(A1))])], [tell(name(A1))], go(far))]
        self.assertEqual(self.check_boxes((10, rows)), 1)

    def test_made_forms(self):
        seen = set()
        for seed in range(150):
            seen.add(self.check_boxes(made_form(seed, 2 + seed % 8, joins=1 + seed % 3)))
        self.assertGreater(len(seen), 5)

    def test_parted_programs(self):
        for seed in range(40):
            self.check_boxes(parted(made_program(seed, 1 + seed % 8, names=4, deeds=3)))

    def test_greatest_ones_soon(self):
        for seed in range(4):
            form = parted(made_program(seed, 24, names=20, stops=False))
            for each in (form, parted(led_back(form))):
                begun = time.perf_counter()
                self.assertIs(shows_boxes(each, boxes(each)), True)
                self.assertLess(time.perf_counter() - begun, 3)


class Shows(Looks):
    # A0 meets A1, and A1 meets A2; A3 meets none.
    FORM = one_row([put(A1, ONE), put(A2, ONE), tell(name(A1)), tell(name(A2)), put(A3, number(1))])
    RIGHT = (2, [(A0, 0), (A1, 1), (A2, 0), (A3, 0)], [A1, A0])

    def shown(self, *told):
        for each in told:
            self.assertIs(shows_boxes(self.FORM, each), True, each)

    def not_shown(self, *told):
        for each in told:
            self.assertIs(shows_boxes(self.FORM, each), False, each)

    def test_right_ones_however_they_are_free(self):
        many, boxed, crowd = self.RIGHT
        self.shown(self.RIGHT, (2, boxed, [A0, A1]), (2, boxed, [A2, A1]), (2, boxed, [A1, A2]),
                   (2, [(A0, 1), (A1, 0), (A2, 1), (A3, 0)], crowd), (2, [(A0, 0), (A1, 1), (A2, 0), (A3, 1)], crowd))

    def test_many(self):
        many, boxed, crowd = self.RIGHT
        self.not_shown(*[(other, boxed, crowd) for other in (0, 1, 3, -2, -1, 10 ** 5000, -10 ** 5000)])
        self.not_shown((3, boxed, [A0, A1, A2]), (1, boxed, [A0]), (0, [], []), (0, boxed, []))

    def test_a_form_in_which_none_is_there(self):
        form = one_row([])
        self.assertIs(shows_boxes(form, (0, [], [])), True)
        for told in [(1, [], []), (-1, [], []), (0, [(A0, 0)], []), (1, [(A0, 0)], [A0]), (1, [], [A0]), (0, [], [A0])]:
            self.assertIs(shows_boxes(form, told), False)

    def test_boxes_that_are_none_of_so_many(self):
        many, boxed, crowd = self.RIGHT
        for at in range(4):
            for box in (-1, 2, 3, 10 ** 5000, -10 ** 5000):
                self.not_shown((2, boxed[:at] + [(boxed[at][0], box)] + boxed[at + 1:], crowd))

    def test_two_that_meet_in_one_box(self):
        many, boxed, crowd = self.RIGHT
        self.not_shown((2, [(A0, 1)] + boxed[1:], crowd), (2, boxed[:2] + [(A2, 1)] + boxed[3:], crowd),
                       (2, [(which, 0) for which, box in boxed], crowd))

    def test_the_list_of_boxes(self):
        many, boxed, crowd = self.RIGHT
        self.not_shown((2, boxed[::-1], crowd), (2, [boxed[1], boxed[0]] + boxed[2:], crowd), (2, [], crowd),
                       (2, boxed + boxed[-1:], crowd), (2, boxed[:1] + boxed, crowd), (2, boxed + [(A4, 0)], crowd),
                       (2, boxed + [(B0, 1)], crowd), (2, boxed[:3] + [(A4, 0)], crowd),
                       (2, [(once("", -5), 0)] + boxed, crowd), (2, boxed + [(once("zzzzzzz", 10 ** 5000), 0)], crowd))
        self.not_shown(*[(2, boxed[:at] + boxed[at + 1:], crowd) for at in range(4)])

    def test_the_crowd(self):
        boxed = self.RIGHT[1]
        self.not_shown(*[(2, boxed, crowd) for crowd in (
            [], [A0], [A0, A0], [A0, A2], [A0, A3], [A1, A3], [A0, A1, A2], [A0, A1, A1], [A0, B0], [B0, B1], [A4, A1],
            [once("", 1), A1], [once("a", 10 ** 5000), A1], [A0, A1, A0])])

    def test_joins_of_one_block_and_given_names_in_the_crowd(self):
        joins = [(A1, [(-1, name(A0))]), (B1, [(-1, name(B0))])]
        form = one_row([], STOP, joins)
        boxed = [(A0, 0), (A1, 0), (B0, 1), (B1, 1)]
        for crowd, shown in [([A0, B0], True), ([A1, B1], True), ([B1, A1], True), ([A0, A1], False),
                             ([A0, B1], False)]:
            self.assertIs(shows_boxes(form, (2, boxed, crowd)), shown)
        for wrong in ([(A0, 0), (A1, 0), (B0, 0), (B1, 1)], [(A0, 0), (A1, 1), (B0, 1), (B1, 1)]):
            self.assertIs(shows_boxes(form, (2, wrong, [A0, B0])), False)

    def bent(self, rng, told):
        """What is told with one thing changed by chance."""
        many, boxed, crowd = copy.deepcopy(told)
        names = [which for which, box in boxed] + [once("q", 1)]
        turn = rng.randrange(8)
        if turn == 0:
            many += rng.choice([-1, 1])
        elif turn < 4:
            at = rng.randrange(len(boxed))
            boxed[at] = (boxed[at][0], rng.randint(-1, many))
        elif turn == 4:
            boxed[rng.randrange(len(boxed))] = (rng.choice(names), rng.randrange(many))
        elif turn == 5:
            rng.shuffle(boxed)
        elif turn == 6:
            crowd[rng.randrange(len(crowd))] = rng.choice(names)
        else:
            rng.shuffle(crowd)
        return (many, boxed, crowd)

    def test_bent_ones(self):
        seen = {True: 0, False: 0}
        for seed in range(80):
            rng = random.Random(seed)
            form = made_form(seed, 2 + seed % 6)
            told, meets = boxes(form), meets_by_reading(form)
            for again in range(25 if told[0] else 0):
                other = self.bent(rng, told)
                so = so_by_reading(form, other, meets)
                self.assertIs(shows_boxes(form, other), so, (form, other))
                seen[so] += 1
        self.assertGreater(min(seen.values()), 200)


class Refusals(unittest.TestCase):
    def test_a_form_that_is_not_good(self):
        for form in [(1, [(0, [], [], STOP)]), (10, []), one_row([tell(name(A1))]), one_row([put(A1, number(10))]),
                     one_row([put(A0, number(1))]), one_row([], go(1)), one_row([], STOP, [(A1, [])])]:
            kept = copy.deepcopy(form)
            with self.assertRaises(NoForm) as caught:
                boxes(form)
            self.assertEqual(type(caught.exception).__bases__, (OnceError,))
            for told in [(0, [], []), (1, [(A1, 0)], [A1])]:
                self.assertRaises(NoForm, shows_boxes, form, told)
            self.assertEqual(form, kept)


class Asking(unittest.TestCase):
    def test_the_answers_are_the_askers_own(self):
        for seed in range(40):
            form = made_form(seed, 2 + seed % 9)
            told = check_asking(self, boxes, form)
            check_asking(self, shows_boxes, form, told)
            check_asking(self, shows_boxes, form, (told[0] + 1, told[1], told[2]))

    def test_kinds(self):
        told = boxes(one_row([tell(name(A0))]))
        self.assertEqual([type(told), type(told[0]), type(told[1]), type(told[1][0]), type(told[2]), type(told[2][0])],
                         [tuple, int, list, tuple, list, tuple])

    def test_by_names_of_the_arguments(self):
        form = one_row([tell(name(A0))])
        self.assertEqual(boxes(form=form), (1, [(A0, 0)], [A0]))
        self.assertIs(shows_boxes(told=(1, [(A0, 0)], [A0]), form=form), True)


if __name__ == "__main__":
    unittest.main()
