import copy
import random
import time
import unittest

from oncenames.errors import NoForm, NoStep, OnceError
from oncenames.forms import parted, run_form
from oncenames.looker import is_good
from oncenames.steps import step, steps, tidy
from samples import (OPS, STOP, check_asking, choose, ends_of_row, go, made_form, made_givens, made_program,
                     masters_by_reading, name, number, once, one_row, put, reached_without, tell)

A0, A1, A2, A3, A4 = [once("a", k) for k in range(5)]
B0, B1, B2, B3 = [once("b", k) for k in range(4)]
SUM = ("plus", name(A0), number(1))
COUNTS = (0, 1, 2, 7, 40)


def swapped(value, old, new):
    """The value with each part that is the old one in its place the new one."""
    if value == old:
        return new
    if isinstance(value, (list, tuple)):
        return type(value)(swapped(each, old, new) for each in value)
    return value


def puts_of(form):
    """A dict of what is put to (block, place, worth)."""
    return {deed[1]: (row[0], at, deed[2]) for row in form[1] for at, deed in enumerate(row[2]) if deed[0] == "put"}


def joins_in(form):
    return {which: [part for source, part in parts] for row in form[1] for which, parts in row[1]}


def parts_in(value):
    """Every part ("name", once-name) in the value, as often as it stands there."""
    if isinstance(value, tuple) and len(value) == 2 and value[0] == "name" and isinstance(value[1], tuple):
        return [value]
    return [part for each in value for part in parts_in(each)] if isinstance(value, (list, tuple)) else []


def without(form, which):
    """The form with the put or join of the once-name left out."""
    return (form[0], [(block, [join for join in joins if join[0] != which],
                       [deed for deed in deeds if deed[0] != "put" or deed[1] != which], ending)
                      for block, joins, deeds, ending in form[1]])


def steps_by_reading(form):
    """Another reading of the document to hold steps against, by each kind over the whole form."""
    puts, joins = puts_of(form), joins_in(form)
    above = masters_by_reading({row[0]: ends_of_row(row) for row in form[1]})
    found = [("copy", x) for x, (block, at, worth) in puts.items() if len(worth) == 2]
    for x in list(puts) + list(joins):
        own = joins.get(x, []).count(name(x))
        if parts_in(form[1]).count(name(x)) == own:
            found.append(("idle", x))
    for x, (block, at, worth) in puts.items():
        for y, (other, place, same) in puts.items():
            if x != y and worth == same and len(worth) == 3:
                if (at < place) if block == other else block in above[other]:
                    found.append(("like", x, y))
        if len(worth) == 3 and worth[1][0] == worth[2][0] == "number":
            found.append(("reckon", x))
    for x, parts in joins.items():
        others = [part for part in parts if part != name(x)]
        if all(part == others[0] for part in others):
            found.append(("one", x))
    for row in form[1]:
        if row[3][0] == "choose" and (row[3][1][0] == "number" or row[3][2] == row[3][3]):
            found.append(("settle", row[0]))
    return sorted(found)


def reckoned(worth, measure):
    word, (kind, first), (kind, second) = worth
    return {"plus": (first + second) % measure, "less": (first - second) % measure,
            "times": (first * second) % measure, "below": int(first < second), "same": int(first == second)}[word]


def settled_by_reading(form, which):
    rows = []
    for block, joins, deeds, ending in form[1]:
        if block == which:
            ending = go(ending[2] if ending[2] == ending[3] or ending[1][1] != 0 else ending[3])
        rows.append((block, joins, deeds, ending))
    ends = {row[0]: ends_of_row(row) for row in rows}
    reached = reached_without(ends, None)
    rows = [row for row in rows if row[0] in reached]
    return (form[0], [(block, [(x, [(source, part) for source, part in parts
                                    if source == -1 or (source in reached and block in ends[source])])
                               for x, parts in joins], deeds, ending)
                      for block, joins, deeds, ending in rows])


def behind_by_reading(form, one):
    word, x = one[:2]
    if word == "settle":
        return settled_by_reading(form, x)
    if word == "reckon":
        old = puts_of(form)[x][2]
        return swapped(form, put(x, old), put(x, number(reckoned(old, form[0]))))
    if word == "copy":
        return swapped(without(form, x), name(x), puts_of(form)[x][2])
    if word == "one":
        other = [part for part in joins_in(form)[x] if part != name(x)][0]
        return swapped(without(form, x), name(x), other)
    if word == "like":
        return swapped(without(form, one[2]), name(one[2]), name(x))
    return without(form, x)


class Looks(unittest.TestCase):
    def has(self, form, *told):
        """Looks that the form has just these steps, and what is behind each. Tells the forms behind."""
        self.assertIs(is_good(form), True, form)
        self.assertEqual(steps(form), list(told))
        return [self.check_step(form, one) for one in told]

    def check_step(self, form, one, givens=None, counts=COUNTS):
        behind = step(form, one)
        self.assertEqual(behind, behind_by_reading(form, one))
        self.check_told(form, behind, givens, counts)
        return behind

    def check_told(self, form, behind, givens=None, counts=COUNTS):
        """Looks that the form behind is good and tells what the form told."""
        self.assertIs(is_good(behind), True, (form, behind))
        for given in givens or made_givens(1, form):
            for many in counts:
                self.assertEqual(run_form(behind, given, many), run_form(form, given, many))


class Copy(Looks):
    def test_a_put_by_a_name(self):
        form = one_row([put(A1, name(A0)), tell(name(A1)), put(A2, ("plus", name(A1), name(A1))), tell(name(A2))],
                       choose(name(A1), 0, 0))
        behind = step(form, ("copy", A1))
        self.assertEqual(behind, one_row([tell(name(A0)), put(A2, ("plus", name(A0), name(A0))), tell(name(A2))],
                                         choose(name(A0), 0, 0)))
        self.has(form, ("copy", A1), ("settle", 0))

    def test_a_put_by_a_number(self):
        form = one_row([put(A1, number(7)), put(A2, ("less", number(9), name(A1))), tell(name(A2))])
        self.assertEqual(self.has(form, ("copy", A1)),
                         [one_row([put(A2, ("less", number(9), number(7))), tell(name(A2))])])

    def test_none_where_the_worth_is_no_part(self):
        self.has(one_row([put(A1, SUM), tell(name(A1))]))

    def test_a_copy_of_a_copy(self):
        form = one_row([put(A1, name(A0)), put(A2, name(A1)), tell(name(A2))])
        behind = self.has(form, ("copy", A1), ("copy", A2))
        self.assertEqual(behind, [one_row([put(A2, name(A0)), tell(name(A2))]),
                                  one_row([put(A1, name(A0)), tell(name(A1))])])

    def test_a_copy_that_is_not_used_is_idle_too(self):
        self.assertEqual(self.has(one_row([put(A1, name(A0))]), ("copy", A1), ("idle", A1)), [one_row([])] * 2)

    def test_a_use_in_a_join(self):
        joins = [(A1, [(-1, number(3)), (0, name(A2))])]
        form = one_row([put(A2, name(A0)), tell(name(A1))], go(0), joins)
        self.assertEqual(self.has(form, ("copy", A2)),
                         [one_row([tell(name(A1))], go(0), [(A1, [(-1, number(3)), (0, name(A0))])])])

    def test_a_copy_of_a_join_that_changes_on(self):
        joins = [(A1, [(-1, number(3)), (0, name(A3))]), (B1, [(-1, number(4)), (0, name(A2))])]
        form = one_row([put(A2, name(A1)), put(A3, ("plus", name(A1), number(1))), tell(name(B1))], go(0), joins)
        behind = self.has(form, ("copy", A2))[0]
        self.assertEqual(behind[1][0][1][1], (B1, [(-1, number(4)), (0, name(A1))]))

    def test_a_use_in_another_block(self):
        form = (10, [(0, [], [put(A1, name(B0))], go(5)), (5, [], [tell(name(A1))], choose(name(A1), 5, 9)),
                     (9, [(A2, [(5, name(A1))])], [tell(name(A2)), tell(name(A1))], STOP)])
        self.has(form, ("copy", A1), ("one", A2))


class Idle(Looks):
    def test_a_put_that_is_not_used(self):
        self.assertEqual(self.has(one_row([put(A1, SUM), tell(name(A0))]), ("idle", A1)), [one_row([tell(name(A0))])])

    def test_each_use_keeps_it(self):
        self.has(one_row([put(A1, SUM), tell(name(A1))]))
        self.has(one_row([put(A1, SUM)], go(0), [(B1, [(-1, number(1)), (0, name(A1))])]), ("idle", B1))
        self.has((10, [(0, [], [put(A1, SUM)], choose(name(A1), 0, 1)), (1, [], [], STOP)]))
        self.has(one_row([put(A1, SUM), put(A2, ("less", name(A1), number(1)))]), ("idle", A2))
        self.has(one_row([put(A1, SUM), put(A2, ("less", number(1), name(A1)))]), ("idle", A2))

    def test_a_join_that_is_used_in_itself_alone(self):
        rows = [(0, [(A1, [(-1, number(1)), (0, name(A1)), (4, name(B0))])], [tell(name(A0))], choose(name(A0), 0, 4)),
                (4, [], [], go(0))]
        behind = self.has((10, rows), ("idle", A1))[0]
        self.assertEqual(behind, (10, [(0, [], [tell(name(A0))], choose(name(A0), 0, 4)), (4, [], [], go(0))]))

    def test_none_where_another_join_uses_it_too(self):
        joins = [(A1, [(-1, number(1)), (0, name(A1))]), (A2, [(-1, number(2)), (0, name(A1))])]
        self.has(one_row([tell(name(A2))], go(0), joins), ("one", A1))

    def test_two_joins_that_use_each_other(self):
        joins = [(A1, [(-1, number(1)), (0, name(A2))]), (A2, [(-1, number(2)), (0, name(A1))])]
        self.has(one_row([], go(0), joins))

    def test_a_put_and_a_join_that_use_each_other(self):
        self.has(one_row([put(A2, ("plus", name(A1), number(1)))], go(0), [(A1, [(-1, number(0)), (0, name(A2))])]))

    def test_a_given_name_is_never_idle(self):
        self.has(one_row([tell(name(A0))]))


class Like(Looks):
    def test_ahead_in_the_same_block(self):
        form = one_row([put(A1, SUM), put(A2, SUM), tell(name(A2)), tell(name(A1))])
        self.assertEqual(self.has(form, ("like", A1, A2)), [one_row([put(A1, SUM), tell(name(A1)), tell(name(A1))])])
        turned = one_row([put(A2, SUM), put(A1, SUM), tell(name(A2)), tell(name(A1))])
        self.assertEqual(self.has(turned, ("like", A2, A1)), [one_row([put(A2, SUM), tell(name(A2)), tell(name(A2))])])

    def two_blocks(self, first, second):
        return (10, [(0, [], [put(first, SUM), tell(name(first))], go(3)),
                     (3, [], [put(second, SUM), tell(name(second))], STOP)])

    def test_in_a_block_that_masters_the_other(self):
        self.has(self.two_blocks(A1, A2), ("like", A1, A2))
        self.has(self.two_blocks(A2, A1), ("like", A2, A1))

    def test_a_master_with_the_greater_number(self):
        rows = [(0, [], [], go(9)), (3, [], [put(B1, SUM), tell(name(B1))], go(9)),
                (9, [], [tell(name(A0)), tell(name(A0)), put(A1, SUM), tell(name(A1))], go(3))]
        self.has((10, rows), ("like", A1, B1))

    def test_none_where_neither_masters_the_other(self):
        rows = [(0, [], [], choose(name(A0), 1, 2)), (1, [], [put(A1, SUM), tell(name(A1))], go(3)),
                (2, [], [put(A2, SUM), tell(name(A2))], go(3)), (3, [], [put(A3, SUM), tell(name(A3))], STOP)]
        self.has((10, rows))

    def test_none_where_the_worths_are_not_the_very_same(self):
        for worth in [("plus", number(1), name(A0)), ("less", name(A0), number(1)), ("plus", name(A0), number(2)),
                      ("plus", name(B0), number(1)), ("plus", name(A0), name(A0))]:
            self.has(one_row([put(A1, SUM), put(A2, worth), tell(name(A2)), tell(name(A1))]))

    def test_none_where_the_worth_is_a_part(self):
        form = one_row([put(A1, name(A0)), put(A2, name(A0)), tell(name(A2)), tell(name(A1))])
        self.has(form, ("copy", A1), ("copy", A2))

    def test_three(self):
        form = one_row([put(B1, SUM), put(A1, SUM), put(A2, SUM), tell(name(B1)), tell(name(A1)), tell(name(A2))])
        self.has(form, ("like", A1, A2), ("like", B1, A1), ("like", B1, A2))

    def test_every_use_is_changed(self):
        joins = [(B1, [(-1, number(1)), (0, name(A2))])]
        form = one_row([put(A1, SUM), put(A2, SUM), put(A3, ("times", name(A2), name(A2))), tell(name(A3)),
                        tell(name(B1)), tell(name(A2)), tell(name(A1))], go(0), joins)
        behind = self.has(form, ("like", A1, A2))[0]
        self.assertNotIn(name(A2), parts_in(behind))

    def test_in_a_loop(self):
        # Each time round the first put and the second one are worth the same, though unlike the time ahead.
        joins = [(A1, [(-1, number(0)), (0, name(A3))])]
        worth = ("plus", name(A1), number(1))
        form = one_row([tell(name(A1)), put(A2, worth), tell(name(A2)), put(A3, worth)], go(0), joins)
        self.has(form, ("like", A2, A3))


class One(Looks):
    def rows(self, first, second, third):
        return (10, [(0, [], [], choose(name(B0), 2, 5)), (2, [], [], go(7)), (5, [], [], go(7)),
                     (7, [(A1, [(2, first), (5, second), (7, third)])], [tell(name(A1))], choose(name(A1), 7, 8)),
                     (8, [(A2, [(7, name(A1))])], [put(A3, ("plus", name(A2), name(A1))), tell(name(A3))], STOP)])

    def test_parts_that_are_one(self):
        for part in (name(A0), number(3), name(B0)):
            for last in (part, name(A1)):
                behind = self.has(self.rows(part, part, last), ("one", A1), ("one", A2))
                self.assertEqual(behind[0][1][3], (7, [], [tell(part)], choose(part, 7, 8)))
                self.assertEqual(behind[0][1][4][1], [(A2, [(7, part)])])

    def test_none_where_two_are_unlike(self):
        for parts in [(name(A0), name(B0), name(A0)), (name(A0), name(A0), number(0)), (number(0), name(A0), name(A1)),
                      (number(1), number(2), name(A1)), (name(A0), name(A0), name(B0))]:
            self.has(self.rows(*parts), ("one", A2))

    def test_a_join_of_one_part(self):
        form = (10, [(0, [(A1, [(-1, name(A0))])], [put(A2, ("plus", name(A1), number(1))), tell(name(A2))], STOP)])
        self.assertEqual(self.has(form, ("one", A1))[0],
                         one_row([put(A2, ("plus", name(A0), number(1))), tell(name(A2))]))

    def test_a_join_that_takes_itself_from_all_but_one(self):
        rows = [(0, [(A1, [(-1, name(A0)), (0, name(A1)), (6, name(A1))])], [tell(name(A1))], choose(name(B0), 0, 6)),
                (6, [], [tell(name(A1))], choose(name(B0), 0, 7)), (7, [], [tell(name(A1))], STOP)]
        behind = self.has((10, rows), ("one", A1))[0]
        self.assertEqual(behind[1][0], (0, [], [tell(name(A0))], choose(name(B0), 0, 6)))

    def test_joins_that_take_one_another(self):
        joins = [(A1, [(-1, name(A0)), (0, name(B1))]), (B1, [(-1, name(B0)), (0, name(A1))])]
        self.has(one_row([tell(name(A1)), tell(name(B1))], go(0), joins))

    def test_a_join_of_another_join_of_the_block_around(self):
        rows = [(0, [(A1, [(-1, number(0)), (0, name(A2)), (3, name(A2))])],
                 [put(A2, ("plus", name(A1), number(1))), tell(name(A1))], choose(name(B0), 0, 3)),
                (3, [(A3, [(0, name(A1)), (3, name(A3))])], [tell(name(A3))], choose(name(A3), 0, 3))]
        behind = self.has((10, rows), ("one", A3))[0]
        self.assertEqual(behind[1][1], (3, [], [tell(name(A1))], choose(name(A1), 0, 3)))


class Reckon(Looks):
    def test_each_op(self):
        for op, first, second, worth in [("plus", 9, 3, 2), ("plus", 4, 5, 9), ("less", 3, 9, 4), ("less", 9, 9, 0),
                                         ("times", 7, 7, 9), ("below", 3, 4, 1), ("below", 4, 4, 0), ("below", 5, 4, 0),
                                         ("same", 4, 4, 1), ("same", 4, 5, 0)]:
            form = one_row([put(A1, (op, number(first), number(second))), tell(name(A1))])
            self.assertEqual(self.has(form, ("reckon", A1)), [one_row([put(A1, number(worth)), tell(name(A1))])])

    def test_the_measure(self):
        for measure, worth in [(2, 0), (3, 2), (10 ** 9, 2)]:
            form = one_row([put(A1, ("plus", number(1), number(1))), tell(name(A1))], measure=measure)
            self.assertEqual(step(form, ("reckon", A1))[1][0][2][0], put(A1, number(worth)))
        last = 10 ** 9 - 1
        form = one_row([put(A1, ("times", number(last), number(last))), tell(name(A1))], measure=10 ** 9)
        self.assertEqual(step(form, ("reckon", A1))[1][0][2][0], put(A1, number(1)))

    def test_none_where_a_name_stands(self):
        for op in OPS:
            self.has(one_row([put(A1, (op, number(1), name(A0))), tell(name(A1))]))
            self.has(one_row([put(A1, (op, name(A0), number(1))), tell(name(A1))]))

    def test_none_of_a_part(self):
        self.has(one_row([put(A1, number(4)), tell(name(A1))]), ("copy", A1))


class Settle(Looks):
    def test_a_number(self):
        for n, block in [(0, 4), (1, 2), (9, 2)]:
            rows = [(0, [], [tell(number(1))], choose(number(n), 2, 4)), (2, [], [tell(number(2))], STOP),
                    (4, [], [tell(number(4))], STOP)]
            self.assertEqual(self.has((10, rows), ("settle", 0)),
                             [(10, [(0, [], [tell(number(1))], go(block)), (block, [], [tell(number(block))], STOP)])])

    def test_both_blocks_the_same(self):
        for part in (name(A0), number(0), number(1)):
            rows = [(0, [], [], choose(part, 3, 3)), (3, [(A1, [(0, name(B0))])], [tell(name(A1))], STOP)]
            behind = self.has((10, rows), ("one", A1), ("settle", 0))
            self.assertEqual(behind[1], (10, [(0, [], [], go(3)), rows[1]]))

    def test_none_else(self):
        self.has((10, [(0, [], [], choose(name(A0), 0, 1)), (1, [], [], go(0))]))
        self.has((10, [(0, [], [], STOP)]))

    def test_joins_lose_the_part_of_a_from_that_leads_there_no_more(self):
        rows = [(0, [], [put(A1, SUM)], choose(number(1), 2, 4)), (2, [], [tell(name(A1))], go(4)),
                (4, [(A2, [(0, name(A1)), (2, name(A0))]), (A3, [(0, number(1)), (2, number(2))])],
                 [tell(name(A2)), tell(name(A3))], STOP)]
        behind = self.has((10, rows), ("settle", 0))[0]
        self.assertEqual(behind[1][2][1], [(A2, [(2, name(A0))]), (A3, [(2, number(2))])])
        self.assertEqual(behind[1][0][3], go(2))

    def test_blocks_that_are_reached_no_more_are_left_out_and_their_parts(self):
        # Behind the settle 2, 3 and 6 are reached no more, though 2 and 3 lead to each other, and 3 to 5.
        rows = [(0, [], [], choose(number(0), 2, 5)), (2, [], [put(A1, SUM)], go(3)),
                (3, [], [tell(name(A1))], choose(name(A1), 2, 6)),
                (5, [(A2, [(0, name(A0)), (5, name(A2)), (6, name(A1))])], [tell(name(A2))], choose(name(B0), 5, 7)),
                (6, [], [put(A3, name(A1))], go(5)), (7, [], [tell(name(A2))], STOP)]
        behind = self.has((10, rows), ("copy", A3), ("idle", A3), ("settle", 0))[2]
        self.assertEqual(behind, (10, [(0, [], [], go(5)),
                                       (5, [(A2, [(0, name(A0)), (5, name(A2))])], [tell(name(A2))],
                                        choose(name(B0), 5, 7)), (7, [], [tell(name(A2))], STOP)]))

    def test_a_block_that_leads_to_itself_no_more(self):
        rows = [(0, [(A1, [(-1, name(A0)), (0, name(A2))])], [put(A2, ("plus", name(A1), number(1)))],
                 choose(number(0), 0, 1)), (1, [], [tell(name(A2))], STOP)]
        behind = self.has((10, rows), ("settle", 0))[0]
        self.assertEqual(behind[1][0][1], [(A1, [(-1, name(A0))])])

    def test_a_block_that_leads_to_itself_for_ever(self):
        rows = [(0, [(A1, [(-1, name(A0)), (0, name(A2))])], [put(A2, ("plus", name(A1), number(1))), tell(name(A2))],
                 choose(number(1), 0, 1)), (1, [], [], STOP)]
        behind = self.has((10, rows), ("settle", 0))[0]
        self.assertEqual(behind, (10, [rows[0][:3] + (go(0),)]))

    def test_great_numbers(self):
        far = 999999999999999
        rows = [(0, [], [], choose(number(0), far - 1, far)), (far - 1, [], [], go(far)),
                (far, [(A1, [(0, number(1)), (far - 1, number(2))])], [tell(name(A1))], STOP)]
        self.assertEqual(self.has((10, rows), ("settle", 0))[0],
                         (10, [(0, [], [], go(far)), (far, [(A1, [(0, number(1))])], [tell(name(A1))], STOP)]))


class Order(Looks):
    def test_all_kinds_in_pythons_order(self):
        two = ("plus", number(1), number(1))
        rows = [(0, [(once("z", 1), [(-1, number(0)), (12, number(0))]), (B2, [(-1, name(B0)), (12, name(B2))])],
                 [put(A2, name(A0)), put(once("a", 10), name(A0)), put(once("aa", 1), SUM), put(A3, SUM),
                  put(once("q", 9), two), put(once("q", 8), two)], choose(number(1), 12, 12)),
                (12, [], [tell(name(B2))], choose(number(0), 0, 0))]
        self.has((10, rows), ("copy", A2), ("copy", once("a", 10)), ("idle", A2), ("idle", A3), ("idle", once("a", 10)),
                 ("idle", once("aa", 1)), ("idle", once("q", 8)), ("idle", once("q", 9)), ("idle", once("z", 1)),
                 ("like", once("aa", 1), A3), ("like", once("q", 9), once("q", 8)), ("one", B2), ("one", once("z", 1)),
                 ("reckon", once("q", 8)), ("reckon", once("q", 9)), ("settle", 0), ("settle", 12))

    def test_none(self):
        self.has(one_row([]))
        self.has(one_row([tell(name(A0)), tell(number(3))], go(0)))


class Tidy(Looks):
    def test_the_first_step_again_and_again(self):
        form = one_row([put(A1, ("plus", number(1), number(2))), put(A2, name(A1)), put(A3, SUM), put(A4, SUM),
                        put(B1, ("times", name(A2), number(2))), tell(name(A4)), tell(name(B1)), tell(name(A3))])
        self.assertEqual(tidy(form), one_row([put(A3, SUM), tell(name(A3)), tell(number(6)), tell(name(A3))]))

    def test_which_is_kept_hangs_on_the_order(self):
        # Idle comes ahead of like: so what isn't used goes first, and the other one stays.
        form = one_row([put(A1, SUM), put(A2, SUM), tell(name(A2))])
        self.assertEqual(tidy(form), one_row([put(A2, SUM), tell(name(A2))]))

    def test_a_block_is_settled_and_what_hung_on_it_goes(self):
        rows = [(0, [], [put(A1, ("below", number(1), number(2)))], choose(name(A1), 1, 2)),
                (1, [], [put(A2, SUM)], go(3)), (2, [], [put(A3, number(5))], go(3)),
                (3, [(A4, [(1, name(A2)), (2, name(A3))])], [put(B1, SUM), tell(name(A4)), tell(name(B1))], STOP)]
        self.assertEqual(tidy((10, rows)), (10, [(0, [], [], go(1)), (1, [], [put(A2, SUM)], go(3)),
                                                 (3, [], [tell(name(A2)), tell(name(A2))], STOP)]))

    def test_a_form_without_steps_stays(self):
        form = one_row([put(A1, SUM), tell(name(A1))], go(0))
        self.assertEqual(tidy(form), form)
        self.assertIsNot(tidy(form), form)

    def check_tidy(self, form):
        tidied, behind = tidy(form), form
        while steps(behind):
            behind = step(behind, steps(behind)[0])
        self.assertEqual(tidied, behind)
        self.assertEqual(steps_by_reading(tidied), [])
        self.check_told(form, tidied)

    def test_made_forms(self):
        for seed in range(150):
            self.check_tidy(made_form(seed, 2 + seed % 9))

    def test_parted_programs(self):
        for seed in range(60):
            self.check_tidy(parted(made_program(seed, 1 + seed % 10, names=3, deeds=4)))

    def test_twenty_four_blocks_with_twenty_names_soon(self):
        for seed in range(4):
            form = parted(made_program(seed, 24, names=20, stops=False))
            begun = time.perf_counter()
            tidied = tidy(form)
            steps(form)
            self.assertLess(time.perf_counter() - begun, 5)
            self.assertEqual(steps(tidied), [])
            self.check_told(form, tidied, counts=(5, 300))

    def test_hundreds_alike(self):
        rows = [put(once("a", k), SUM) for k in range(600, 0, -1)] + [tell(name(once("a", k))) for k in range(1, 601)]
        begun = time.perf_counter()
        self.assertEqual(tidy(one_row(rows)), one_row([put(once("a", 600), SUM)] + [tell(name(once("a", 600)))] * 600))
        self.assertLess(time.perf_counter() - begun, 10)


class Against(Looks):
    def test_made_forms(self):
        seen = {}
        for seed in range(250):
            form = made_form(seed, 2 + seed % 9)
            told = steps(form)
            self.assertEqual(told, steps_by_reading(form))
            for one in told:
                seen[one[0]] = seen.get(one[0], 0) + 1
                self.check_step(form, one, counts=(1, 5, 30))
        self.assertEqual(sorted(seen), ["copy", "idle", "like", "one", "reckon", "settle"])
        self.assertGreater(min(seen.values()), 50)

    def test_steps_by_chance_one_behind_the_other(self):
        for seed in range(60):
            rng = random.Random(seed)
            first = form = made_form(seed, 3 + seed % 8, joins=3)
            while steps(form):
                self.assertEqual(steps(form), steps_by_reading(form))
                form = step(form, rng.choice(steps(form)))
                self.check_told(first, form, counts=(1, 12, 40))


class Refusals(unittest.TestCase):
    BAD = [(1, [(0, [], [], STOP)]), (10, []), one_row([tell(name(A1))]), one_row([put(A1, number(10))]),
           one_row([put(A0, number(1))]), one_row([], go(1)), one_row([("say", number(1))])]

    def test_a_form_that_is_not_good(self):
        for form in self.BAD:
            kept = copy.deepcopy(form)
            self.assertRaises(NoForm, steps, form)
            self.assertRaises(NoForm, tidy, form)
            for one in [("copy", A1), ("settle", 0), ("what", 1), ()]:
                self.assertRaises(NoForm, step, form, one)
            self.assertEqual(form, kept)

    def test_a_step_that_the_form_does_not_have(self):
        rows = [(0, [(B1, [(-1, number(1))])], [put(A1, name(A0)), put(A2, SUM), put(A3, SUM), tell(name(A3))],
                 choose(name(A2), 4, 4)), (4, [], [tell(name(B1))], STOP)]
        form = (10, rows)
        self.assertEqual(steps(form), [("copy", A1), ("idle", A1), ("like", A2, A3), ("one", B1), ("settle", 0)])
        for one in [("copy", A0), ("copy", A2), ("copy", B1), ("copy", A4), ("copy", once("zz", 10 ** 9)), ("idle", A2),
                    ("idle", A0), ("idle", B1), ("like", A3, A2), ("like", A2, A2), ("like", A2, A4), ("like", A1, A2),
                    ("like", A2), ("one", A1), ("one", B0), ("reckon", A1), ("reckon", A2), ("settle", 4),
                    ("settle", 1), ("settle", -1), ("settle", 10 ** 5000), ("settle", A1), ("copy", 0), ("Copy", A1),
                    ("", A1), ("copy",), (), ("copy", A1, A1), ("settle", 0, 0), ("like", A2, A3, A3)]:
            kept = copy.deepcopy(form)
            with self.assertRaises(NoStep) as caught:
                step(form, one)
            self.assertEqual(type(caught.exception).__bases__, (OnceError,))
            self.assertEqual(form, kept)

    def test_a_step_that_was_done(self):
        form = one_row([put(A1, name(A0)), tell(name(A1))])
        self.assertRaises(NoStep, step, step(form, ("copy", A1)), ("copy", A1))


class Asking(unittest.TestCase):
    def test_the_answers_are_the_askers_own(self):
        for seed in range(40):
            form = made_form(seed, 2 + seed % 9)
            told = check_asking(self, steps, form)
            check_asking(self, tidy, form)
            for one in told[:3] + told[-3:]:
                check_asking(self, step, form, one)

    def test_kinds(self):
        form = one_row([put(A1, name(A0)), tell(name(A1))])
        self.assertEqual([type(steps(form)), type(steps(form)[0])], [list, tuple])
        for behind in (step(form, ("copy", A1)), tidy(form)):
            self.assertEqual([type(behind), type(behind[1]), type(behind[1][0])], [tuple, list, tuple])
            self.assertEqual([type(each) for each in behind[1][0]], [int, list, list, tuple])

    def test_lists_that_the_asker_has_at_two_places(self):
        shared = []
        form = (10, [(0, shared, shared, go(1)), (1, shared, shared, choose(number(0), 0, 1))])
        check_asking(self, tidy, form)
        check_asking(self, step, form, ("settle", 1))

    def test_by_names_of_the_arguments(self):
        form = one_row([put(A1, name(A0)), tell(name(A1))])
        self.assertEqual(steps(form=form), [("copy", A1)])
        self.assertEqual(step(one=("copy", A1), form=form), one_row([tell(name(A0))]))
        self.assertEqual(tidy(form=form), one_row([tell(name(A0))]))


if __name__ == "__main__":
    unittest.main()
