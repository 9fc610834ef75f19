import copy
import random
import time
import unittest

from oncenames.forms import parted
from oncenames.looker import is_good
from samples import (STOP, check_asking, choose, ends_of_row, go, made_program, name, number, once, one_row, put,
                     reached_without, replaced, tell, texts_and_numbers)

FAR = 10 ** 5000
A0, A1, A2, A3, B1 = once("a", 0), once("a", 1), once("a", 2), once("a", 3), once("b", 1)
# 0 leads to 2 and 5, both to 7, that to itself and 9. The numbers have gaps, as they may.
ROWS = [
    (0, [], [put(A1, ("plus", name(A0), number(1))), tell(name(A1))], choose(name(A1), 2, 5)),
    (2, [], [put(A2, number(9))], go(7)),
    (5, [], [], go(7)),
    (7, [(A3, [(2, name(A2)), (5, name(A1)), (7, name(B1))])], [put(B1, ("less", name(A3), number(0)))],
     choose(name(B1), 7, 9)),
    (9, [], [tell(name(A3)), tell(name(A0))], STOP),
]
FORM = (10, ROWS)


def with_row(block, row):
    """The form with another row in the place of the block's."""
    return (10, [row if each[0] == block else each for each in ROWS])


def part_fine(part, measure):
    word, thing = part
    if word == "number" and isinstance(thing, int):
        return 0 <= thing < measure
    return word == "name" and isinstance(thing, tuple) and once_fine(thing)


def once_fine(which):
    text, k = which
    return 1 <= len(text) <= 6 and set(text) <= set("abcdefghijklmnopqrstuvwxyz") and k in range(1000)


def worth_fine(worth, measure):
    if len(worth) == 2:
        return part_fine(worth, measure)
    return worth[0] in ("plus", "less", "times", "below", "same") and all(part_fine(p, measure) for p in worth[1:])


def row_fine(row, measure):
    block, joins, deeds, ending = row
    fine = [(len(ending), ending[0]) in [(1, "stop"), (2, "go"), (4, "choose")]]
    fine += [part_fine(ending[1], measure)] if len(ending) == 4 else []
    for deed in deeds:
        fine.append((len(deed), deed[0]) in [(3, "put"), (2, "tell")])
        fine.append(once_fine(deed[1]) and worth_fine(deed[2], measure) if len(deed) == 3
                    else part_fine(deed[1], measure))
    for which, parts in joins:
        fine.append(once_fine(which))
        fine += [part_fine(part, measure) for source, part in parts]
    return all(fine)


def named(worth):
    parts = worth[1:] if len(worth) == 3 else (worth,)
    return [part[1] for part in parts if part[0] == "name"]


def good_by_reading(form):
    """Another reading of the document to hold is_good against: each use by leaving blocks out."""
    measure, rows = form
    blocks = [row[0] for row in rows]
    if measure not in range(2, 10 ** 9 + 1) or blocks[:1] != [0] or blocks != sorted(set(blocks)):
        return False
    if not all(row_fine(row, measure) for row in rows):
        return False
    if not all(end in blocks for row in rows for end in ends_of_row(row)):
        return False
    ends = {row[0]: ends_of_row(row) for row in rows}
    if reached_without(ends, None) != set(blocks) | {-1}:
        return False
    puts, uses = [], []
    for block, joins, deeds, ending in rows:
        for which, parts in joins:
            puts.append((which, block, -1))
            leading = ([-1] if block == 0 else []) + [row[0] for row in rows if block in ends_of_row(row)]
            if [source for source, part in parts] != leading:
                return False
            uses += [(used, source, 10 ** 6) for source, part in parts for used in named(part)]
        for at, deed in enumerate(deeds):
            uses += [(used, block, at) for used in named(deed[-1])]
            puts += [(deed[1], block, at)] if deed[0] == "put" else []
        uses += [(used, block, len(deeds)) for used in (named(ending[1]) if ending[0] == "choose" else [])]
    if len({which for which, block, at in puts}) != len(puts) or any(which[1] == 0 for which, block, at in puts):
        return False
    homes = {which: (block, at) for which, block, at in puts}
    past = {block: reached_without(ends, block) for block in blocks}
    for used, block, at in uses:
        if used[1] != 0:
            home, place = homes.get(used, (None, 0))
            if home is None or (place >= at if home == block else block in past[home]):
                return False
    return True


class Looks(unittest.TestCase):
    def good(self, *forms):
        for form in forms:
            self.assertIs(is_good(form), True, form)

    def bad(self, *forms):
        for form in forms:
            self.assertIs(is_good(form), False, form)


class Good(Looks):
    def test_ordinary(self):
        self.good(FORM, one_row([]), one_row([tell(number(9)), tell(name(A0))], go(0)))

    def test_joins_of_a_block_in_any_order(self):
        first = (once("z", 2), [(-1, name(once("z", 0))), (0, name(once("c", 1)))])
        second = (once("c", 1), [(-1, number(0)), (0, name(once("z", 2)))])
        third = (once("c", 9), [(-1, number(0)), (0, name(once("c", 9)))])
        for joins in ([first, second, third], [third, second, first], [second, third, first]):
            self.good(one_row([tell(name(once("c", 9)))], go(0), joins))

    def test_joins_that_need_not_stand(self):
        self.good(one_row([], STOP, [(A1, [(-1, number(3))])]), one_row([], STOP, [(A1, [(-1, name(A0))])]))

    def test_great_block_numbers(self):
        far = 999999999999999
        rows = [(0, [], [], choose(number(0), 10 ** 14, far)), (10 ** 14, [], [put(A1, number(1))], go(far)),
                (far, [(A2, [(0, number(2)), (10 ** 14, name(A1)), (far, name(A2))])], [], go(far))]
        self.good((10, rows))
        self.bad((10, rows[:2]), (10, [rows[0], rows[2], rows[1]]))

    def test_rows_and_deeds_beyond_the_bounds(self):
        many = 1500
        rows = [(block, [], [put(once("a", block % 999 + 1), number(0))] if block < 999 else [], go(block + 1))
                for block in range(many)]
        rows.append((many, [], [tell(name(once("a", k))) for k in range(1000)], STOP))
        begun = time.perf_counter()
        self.good((2, rows))
        self.bad((2, rows[1:]), (2, rows[:-1]))
        self.assertLess(time.perf_counter() - begun, 5)

    def test_many_loops_within_one_another(self):
        many = 600
        rows = [(block, [], [], choose(number(0), block + 1, many - block)) for block in range(many)]
        rows.append((many, [], [put(A1, number(1))], choose(name(A1), 0, many)))
        self.good((2, rows))

    def test_greatest_and_least_numbers(self):
        self.good(one_row([tell(number(10 ** 9 - 1))], measure=10 ** 9), one_row([tell(number(1))], measure=2))
        self.good(one_row([put(once("zzzzzz", 999), number(0)), tell(name(once("zzzzzz", 999)))]))

    def test_a_use_in_each_place_behind_its_put(self):
        self.good(one_row([put(A1, number(1)), put(A2, name(A1)), put(A3, ("times", name(A1), name(A2))),
                           tell(name(A3))], choose(name(A3), 0, 0)))

    def test_a_name_may_have_gaps_among_its_k(self):
        self.good(one_row([put(once("a", 500), number(1)), put(A2, name(once("a", 500)))]))

    def test_names_like_words(self):
        for word in ["plus", "number", "name", "put", "tell", "stop", "below"]:
            self.good(one_row([put(once(word, 3), name(once(word, 0))), tell(name(once(word, 3)))]))

    def test_parted_forms(self):
        for seed in range(200):
            self.good(parted(made_program(seed, 1 + seed % 24, names=1 + seed % 20)))


class Bad(Looks):
    def test_the_measure(self):
        for measure in (1, 0, -1, -10, 10 ** 9 + 1, FAR, -FAR):
            self.bad((measure, [(0, [], [], STOP)]))
        self.good((2, [(0, [], [], STOP)]), (10 ** 9, [(0, [], [], STOP)]))

    def test_no_rows(self):
        self.bad((10, []))

    def test_a_first_row_that_is_not_block_0(self):
        self.bad((10, [(1, [], [], STOP)]), (10, [(-1, [], [], STOP)]), (10, [(1, [], [], go(1))]),
                 (10, [(-1, [], [], go(0)), (0, [], [], STOP)]), (10, [(1, [], [], STOP), (0, [], [], go(1))]))

    def test_numbers_that_do_not_rise(self):
        self.bad((10, [ROWS[0], ROWS[2], ROWS[1], ROWS[3], ROWS[4]]))
        self.bad((10, [(0, [], [], choose(number(1), 1, 2)), (2, [], [], STOP), (1, [], [], STOP)]))

    def test_numbers_that_stand_twice(self):
        self.bad((10, [(0, [], [], STOP), (0, [], [], STOP)]), (10, [(0, [], [], go(1))] + [(1, [], [], STOP)] * 2))

    def test_endings_to_blocks_that_are_not_there(self):
        for wrong in (1, -1, -2, 6, 10, FAR, -FAR):
            self.bad(one_row([], go(wrong)), one_row([], choose(number(1), wrong, 0)),
                     one_row([], choose(number(1), 0, wrong)), with_row(5, (5, [], [], choose(number(1), 7, wrong))))

    def test_a_block_that_is_not_reached(self):
        self.bad((10, [(0, [], [], STOP), (1, [], [], STOP)]), (10, [(0, [], [], go(0)), (1, [], [], go(0))]),
                 (10, [(0, [], [], STOP), (1, [], [], go(2)), (2, [], [], go(1))]))
        self.bad((10, ROWS[:3] + [ROWS[3][:3] + (go(7),)] + ROWS[4:]))

    def test_names(self):
        for text in ["", "abcdefg", "A", "aB", "a1", "a_b", "a b", " a", "a\n", "1", "a.b", "\u00e4", "a\u0131", "`",
                     "{", "x" * 20000]:
            self.bad(one_row([tell(name(once(text, 0)))]), one_row([put(once(text, 1), number(1))]),
                     one_row([], STOP, [(once(text, 1), [(-1, number(1))])]),
                     one_row([], choose(name(once(text, 0)), 0, 0)), one_row([put(A1, name(once(text, 0)))]),
                     one_row([put(A1, ("plus", name(once(text, 0)), number(1)))]),
                     one_row([put(A1, ("plus", number(1), name(once(text, 0))))]),
                     one_row([], STOP, [(A1, [(-1, name(once(text, 0)))])]))

    def test_ks(self):
        for k in (-1, -999, 1000, FAR, -FAR):
            self.bad(one_row([put(once("a", k), number(1))]), one_row([tell(name(once("a", k)))]),
                     one_row([put(once("a", k), number(1)), tell(name(once("a", k)))]),
                     one_row([], STOP, [(once("a", k), [(-1, number(1))])]),
                     one_row([], STOP, [(A1, [(-1, name(once("a", k)))])]))

    def test_words(self):
        for word in ["", "Put", "puts", "go", "number", "plus", "stop", "choose", "name", "x" * 100]:
            self.bad(one_row([(word, A1, number(1))]), one_row([(word, number(1))]))
        self.bad(one_row([("tell", A1, number(1))]), one_row([("put", number(1))]))
        for word in ["", "Plus", "divide", "put", "tell", "go", "same ", "number", "name", "+"]:
            self.bad(one_row([put(A1, (word, number(1), number(2)))]))
        for word in ["", "Number", "names", "plus", "put", "stop", "below", "tell"]:
            self.bad(one_row([tell((word, 1))]), one_row([tell((word, A0))]), one_row([put(A1, (word, 1))]),
                     one_row([put(A1, ("plus", (word, 1), number(1)))]),
                     one_row([put(A1, ("plus", number(1), (word, A0)))]), one_row([], choose((word, 1), 0, 0)),
                     one_row([], STOP, [(A1, [(-1, (word, 1))])]))
        for word in ["", "Stop", "halt", "put", "tell", "number", "plus"]:
            self.bad(one_row([], (word,)), one_row([], (word, 0)), one_row([], (word, number(1), 0, 0)))

    def test_words_of_another_place_of_their_kind(self):
        self.bad(one_row([], ("go",)), one_row([], ("choose",)), one_row([], ("stop", 0)), one_row([], ("choose", 0)),
                 one_row([], ("go", number(1), 0, 0)), one_row([], ("stop", number(1), 0, 0)),
                 one_row([tell(("number", A0))]), one_row([tell(("name", 1))]), one_row([put(A1, ("name", 0))]),
                 one_row([], choose(("number", A0), 0, 0)), one_row([], STOP, [(A1, [(-1, ("name", 0))])]))

    def test_words_with_too_few_or_too_many_things(self):
        three = ("plus", number(1), number(1))
        self.bad(one_row([tell(three)]), one_row([put(A1, ("plus", three, number(1)))]),
                 one_row([], choose(three, 0, 0)),
                 one_row([("tell",)]), one_row([("tell", number(1), number(1), number(1))]),
                 one_row([], ("choose", number(1), 0)), one_row([], ("choose", number(1), 0, 0, 0)))

    def test_numbers(self):
        for n in (-1, -10, 10, 11, FAR, -FAR):
            self.bad(one_row([tell(number(n))]), one_row([put(A1, number(n))]),
                     one_row([put(A1, ("plus", number(n), number(1)))]),
                     one_row([put(A1, ("plus", number(1), number(n)))]), one_row([], choose(number(n), 0, 0)),
                     one_row([], STOP, [(A1, [(-1, number(n))])]))
        self.bad(one_row([tell(number(2))], measure=2), one_row([tell(number(10 ** 9))], measure=10 ** 9))

    def test_put_or_joined_twice(self):
        self.bad(one_row([put(A1, number(1)), put(A1, number(1))]),
                 one_row([put(A1, number(1))], STOP, [(A1, [(-1, number(1))])]),
                 one_row([], STOP, [(A1, [(-1, number(1))]), (A1, [(-1, number(1))])]),
                 with_row(5, (5, [], [put(A2, number(1))], go(7))),
                 with_row(5, (5, [(A2, [(0, number(1))])], [], go(7))),
                 with_row(5, (5, [], [put(A3, number(1))], go(7))))

    def test_put_or_joined_with_k_0(self):
        self.bad(one_row([put(A0, number(1))]), one_row([], STOP, [(A0, [(-1, number(1))])]),
                 one_row([put(once("q", 0), name(once("q", 0)))]))

    def join_in_7(self, *parts):
        return with_row(7, (7, [(A3, list(parts))], ROWS[3][2], ROWS[3][3]))

    def test_froms(self):
        one, two, three = (2, name(A2)), (5, name(A1)), (7, name(B1))
        self.good(self.join_in_7(one, two, three))
        self.bad(self.join_in_7(one, two), self.join_in_7(two, three), self.join_in_7(one, three), self.join_in_7())
        self.bad(self.join_in_7(one, two, three, (9, number(1))), self.join_in_7((0, number(1)), one, two, three),
                 self.join_in_7((-1, number(1)), one, two, three), self.join_in_7(one, (3, number(1)), two, three),
                 self.join_in_7(one, two, three, (FAR, number(1))))
        self.bad(self.join_in_7(two, one, three), self.join_in_7(one, three, two), self.join_in_7(three, two, one))
        self.bad(self.join_in_7(one, one, two, three), self.join_in_7(one, two, three, three))
        self.bad(self.join_in_7(one, two, (8, name(B1))))

    def test_the_begin_among_the_froms_of_block_0_alone(self):
        self.good(one_row([], go(0), [(A1, [(-1, number(1)), (0, number(2))])]))
        self.bad(one_row([], go(0), [(A1, [(0, number(2))])]), one_row([], go(0), [(A1, [(-1, number(1))])]),
                 one_row([], go(0), [(A1, [(0, number(2)), (-1, number(1))])]),
                 one_row([], STOP, [(A1, [(-1, number(1)), (0, number(2))])]),
                 (10, [(0, [], [], go(1)), (1, [(A1, [(-1, number(1))])], [], STOP)]))

    def test_one_block_that_leads_by_both_ends_is_one_from(self):
        rows = [(0, [], [], choose(number(1), 1, 1))]
        self.good((10, rows + [(1, [(A1, [(0, number(1))])], [], STOP)]))
        self.bad((10, rows + [(1, [(A1, [(0, number(1)), (0, number(1))])], [], STOP)]))

    def test_uses_that_are_put_nowhere(self):
        lost = once("a", 7)
        self.bad(one_row([tell(name(lost))]), one_row([put(A1, name(lost))]), one_row([], choose(name(lost), 0, 0)),
                 one_row([put(A1, ("plus", name(lost), number(1)))]), one_row([tell(name(lost)), put(A1, number(0))]),
                 one_row([put(A1, ("plus", number(1), name(lost)))]), with_row(9, (9, [], [tell(name(lost))], STOP)))

    def test_uses_that_no_put_masters(self):
        self.bad(with_row(9, (9, [], [tell(name(A2))], STOP)), with_row(5, (5, [], [tell(name(A2))], go(7))),
                 with_row(2, (2, [], [put(A2, name(A3))], go(7))), with_row(5, (5, [], [], choose(name(B1), 7, 7))))
        self.bad((10, [(0, [], [tell(name(A1))], go(1)), (1, [], [put(A1, number(1))], go(0))]))

    def test_uses_that_stand_ahead_of_their_put_in_the_same_block(self):
        self.bad(one_row([tell(name(A1)), put(A1, number(1))]), one_row([put(A1, name(A1))]),
                 one_row([put(A1, ("plus", name(A1), number(1)))]), one_row([put(A1, ("plus", number(1), name(A1)))]),
                 one_row([tell(name(A1)), put(A1, number(1))], go(0)))

    def test_a_join_stands_ahead_of_all_deeds_and_the_ending_behind_them(self):
        self.good(one_row([put(A2, name(A1)), tell(name(A2))], STOP, [(A1, [(-1, number(1))])]),
                  one_row([put(A1, number(1))], choose(name(A1), 0, 0)))

    def test_a_part_that_is_not_put_at_the_end_of_its_from(self):
        one, two, three = (2, name(A2)), (5, name(A1)), (7, name(B1))
        self.bad(self.join_in_7((2, name(B1)), two, three), self.join_in_7(one, (5, name(A2)), three),
                 self.join_in_7(one, two, (7, name(A2))), self.join_in_7(one, (5, name(A3)), three),
                 self.join_in_7(one, two, (7, name(once("c", 1)))))
        self.good(self.join_in_7(one, two, (7, name(A3))), self.join_in_7(one, two, (7, name(A1))))

    def test_a_join_takes_what_is_put_in_its_own_block_where_that_is_its_from(self):
        joins = [(A1, [(-1, number(0)), (0, name(A2))])]
        self.good(one_row([put(A2, ("plus", name(A1), number(1)))], go(0), joins))
        self.bad((10, [(0, [], [], go(1)), (1, [(A1, [(0, name(A2))])], [put(A2, number(1))], STOP)]))

    def test_a_part_from_the_begin(self):
        for part, fine in [(number(9), True), (name(A0), True), (name(once("q", 0)), True), (name(A1), False),
                           (name(A2), False), (name(B1), False)]:
            joins = [(A1, [(-1, part), (0, number(0))])]
            self.assertIs(is_good(one_row([put(A2, number(1))], go(0), joins)), fine)

    def test_joins_of_one_block_are_not_ahead_of_one_another(self):
        self.bad(one_row([], STOP, [(A1, [(-1, number(1))]), (A2, [(-1, name(A1))])]))
        self.bad((10, [(0, [], [], go(1)), (1, [(A1, [(0, number(1))]), (A2, [(0, name(A1))])], [], STOP)]))


class Against(Looks):
    def test_forms_with_one_thing_changed(self):
        seen = {True: 0, False: 0}
        for seed in range(400):
            rng = random.Random(seed)
            form = parted(made_program(seed, 2 + seed % 7, names=2, deeds=3, stops=seed % 2 == 0))
            places = texts_and_numbers(form)
            for again in range(12):
                place, thing = rng.choice(places)
                others = ["a", "b", "put", "tell", "number", "name", "go", "plus", "stop", "", "c", "A"]
                if isinstance(thing, int):
                    others = [-1, 0, 1, 2, 3, 4, 5, 9, 10, thing + 1, thing - 1, 10 ** 15]
                changed = replaced(form, place, rng.choice(others))
                fine = good_by_reading(changed)
                self.assertIs(is_good(changed), fine, changed)
                seen[fine] += 1
        self.assertGreater(min(seen.values()), 500)

    def test_forms_with_rows_deeds_or_parts_dropped(self):
        seen = {True: 0, False: 0}
        for seed in range(300):
            rng = random.Random(seed)
            form = parted(made_program(seed, 2 + seed % 7, names=2, deeds=3, stops=seed % 2 == 0))
            lists = [form[1]] + [each for row in form[1] for each in row[1:3]]
            lists += [parts for row in form[1] for which, parts in row[1]]
            chosen = rng.choice([each for each in lists if each])
            if rng.random() < 0.5:
                del chosen[rng.randrange(len(chosen))]
            else:
                rng.shuffle(chosen)
            fine = good_by_reading(form)
            self.assertIs(is_good(form), fine, form)
            seen[fine] += 1
        self.assertGreater(min(seen.values()), 50)


class Asking(unittest.TestCase):
    def test_asking_changes_nothing(self):
        check_asking(self, is_good, FORM)
        check_asking(self, is_good, with_row(9, (9, [], [tell(name(A2))], STOP)))
        for seed in range(20):
            check_asking(self, is_good, parted(made_program(seed, 1 + seed % 24)))

    def test_a_later_change_is_seen(self):
        form = copy.deepcopy(FORM)
        self.assertIs(is_good(form), True)
        form[1][4][2].append(tell(name(A2)))
        self.assertIs(is_good(form), False)

    def test_by_name_of_the_argument(self):
        self.assertIs(is_good(form=FORM), True)


if __name__ == "__main__":
    unittest.main()
