import random
import unittest

from oncenames.errors import NoForm, NoText, OnceError
from oncenames.forms import parted
from oncenames.ledback import led_back
from oncenames.looker import is_good
from oncenames.texts import read_form, read_program, show_form, show_program
from samples import (STOP, check_asking, choose, go, made_form, made_program, name, number, once, put, tell)

A0, A1, A2, A3, B1 = once("a", 0), once("a", 1), once("a", 2), once("a", 3), once("b", 1)
PROGRAM = (100, [
    ([put("a", ("plus", name("a"), number(10))), put("b", ("less", number(0), name("a"))),
      put("c", ("times", name("a"), name("b"))), tell(name("c"))], choose(name("a"), 2, 0)),
    ([put("d", ("below", number(3), number(99))), put("zzzzzz", ("same", name("d"), name("d")))], go(1)),
    ([put("a", number(7)), put("b", name("a")), tell(number(0))], STOP),
])
PROGRAM_TEXT = """measure 100
block 0
put a = a + 10
put b = 0 - a
put c = a * b
tell c
choose a 2 0
block 1
put d = 3 < 99
put zzzzzz = d = d
go 1
block 2
put a = 7
put b = a
tell 0
stop"""
FORM = (10, [
    (0, [(A1, [(-1, number(0)), (0, name(A2))]), (B1, [(-1, name(A0)), (0, name(B1))])],
     [put(A2, ("plus", name(A1), number(1))), tell(name(B1))], choose(name(A2), 0, 25)),
    (25, [(A3, [(0, name(A1))])], [tell(name(A3)), put(once("begin", 999), name(once("stop", 0)))], STOP),
])
FORM_TEXT = """measure 10
block 0
join a.1 = begin:0, 0:a.2
join b.1 = begin:a.0, 0:b.1
put a.2 = a.1 + 1
tell b.1
choose a.2 0 25
block 25
join a.3 = 0:a.1
tell a.3
put begin.999 = stop.0
stop"""
SIGNS = [chr(code) for code in range(32, 127) if chr(code) != "%"] + ["\n"]


def with_row(text, at, *rows):
    """The text with other rows in the place of one."""
    split = text.split("\n")
    return "\n".join(split[:at] + list(rows) + split[at + 1:])


class Looks(unittest.TestCase):
    def no_text(self, read, *texts):
        for text in texts:
            with self.assertRaises(NoText, msg=repr(text)) as caught:
                read(text)
            self.assertEqual(type(caught.exception).__bases__, (OnceError,))

    def no_form(self, *texts):
        for text in texts:
            with self.assertRaises(NoForm, msg=repr(text)):
                read_form(text)

    def bends(self, text, seed, many):
        """Texts that differ from this one by a sign, a row or a blank."""
        rng = random.Random(seed)
        rows = text.split("\n")
        for again in range(many):
            at, row = rng.randrange(len(text)), rng.randrange(len(rows))
            yield text[:at] + text[at + 1:]
            yield text[:at] + rng.choice(SIGNS) + text[at:]
            yield text[:at] + rng.choice(SIGNS) + text[at + 1:]
            yield text[:at] + rng.choice("0123456789 .:,ab\n") + text[at + 1:]
            yield "\n".join(rows[:row] + rows[row + 1:])
            yield "\n".join(rows[:row] + [rows[row]] + rows[row:])
            other = rng.randrange(len(rows))
            swapped = list(rows)
            swapped[row], swapped[other] = swapped[other], swapped[row]
            yield "\n".join(swapped)
            words = rows[row].split(" ")
            rng.shuffle(words)
            yield "\n".join(rows[:row] + [" ".join(words)] + rows[row + 1:])


class Show(Looks):
    def test_a_program(self):
        self.assertEqual(show_program(PROGRAM), PROGRAM_TEXT)
        self.assertEqual(show_program((2, [([], STOP)])), "measure 2\nblock 0\nstop")
        self.assertEqual(show_program((10 ** 9, [([tell(number(10 ** 9 - 1))], go(0))])),
                         "measure 1000000000\nblock 0\ntell 999999999\ngo 0")

    def test_a_form(self):
        self.assertIs(is_good(FORM), True)
        self.assertEqual(show_form(FORM), FORM_TEXT)
        self.assertEqual(show_form((2, [(0, [], [], STOP)])), "measure 2\nblock 0\nstop")

    def test_the_join_of_the_document(self):
        rows = [(0, [], [], go(2)), (2, [], [put(B1, number(1))], go(3)),
                (3, [(A3, [(-1, number(0)), (2, name(B1))])], [], STOP)]
        self.assertIn("\njoin a.3 = begin:0, 2:b.1\n", show_form((10, rows)))

    def test_great_block_numbers(self):
        far = 999999999999999
        rows = [(0, [], [], choose(name(A0), far, far)), (far, [(A1, [(0, number(1)), (far, number(2))])], [], go(far))]
        self.assertEqual(show_form((10, rows)), f"measure 10\nblock 0\nchoose a.0 {far} {far}\nblock {far}\n"
                                                f"join a.1 = 0:1, {far}:2\ngo {far}")

    def test_names_like_words(self):
        program = (10,
                   [([put("put", ("plus", name("put"), name("tell"))), tell(name("stop"))], choose(name("go"), 0, 0))])
        self.assertEqual(show_program(program), "measure 10\nblock 0\nput put = put + tell\ntell stop\nchoose go 0 0")
        self.assertEqual(read_program(show_program(program)), program)


class Read(Looks):
    def test_what_was_written(self):
        self.assertEqual(read_program(PROGRAM_TEXT), PROGRAM)
        self.assertEqual(read_form(FORM_TEXT), FORM)

    def test_made_programs(self):
        for seed in range(150):
            program = made_program(seed, 1 + seed % 24, names=1 + seed % 20)
            text = show_program(program)
            self.assertEqual(read_program(text), program)
            self.assertTrue(set(text) <= set(SIGNS))

    def test_made_forms(self):
        seen = 0
        for seed in range(150):
            form = made_form(seed, 1 + seed % 12)
            if max(row[0] for row in form[1]) < 10 ** 10:
                seen += 1
                self.assertEqual(read_form(show_form(form)), form)
            else:
                self.no_text(read_form, show_form(form))
        self.assertGreater(seen, 80)

    def test_parted_forms_and_programs_led_back(self):
        for seed in range(20):
            form = parted(made_program(seed, 1 + seed % 24, names=20))
            program = led_back(form)
            self.assertEqual(read_form(show_form(form)), form)
            self.assertEqual(read_program(show_program(program)), program)

    def test_texts_of_more_than_20000_signs(self):
        program = (10, [([tell(name("a"))] * 3000, go(block)) for block in range(3)])
        self.assertEqual(read_program(show_program(program)), program)

    def test_kinds(self):
        measure, blocks = read_program(PROGRAM_TEXT)
        self.assertEqual([type(measure), type(blocks), type(blocks[0]), type(blocks[0][0]), type(blocks[0][0][0])],
                         [int, list, tuple, list, tuple])
        measure, rows = read_form(FORM_TEXT)
        self.assertEqual([type(each) for each in rows[0]], [int, list, list, tuple])
        self.assertEqual([type(rows), type(rows[0]), type(rows[0][1][0]), type(rows[0][1][0][1])],
                         [list, tuple, tuple, list])

    def test_bent_texts_of_programs(self):
        refused = 0
        for seed, program in enumerate([PROGRAM] + [made_program(seed, 1 + seed % 5, deeds=3) for seed in range(12)]):
            text = show_program(program)
            for other in self.bends(text, seed, 60):
                try:
                    self.assertEqual(show_program(read_program(other)), other)
                except NoText:
                    refused += 1
        self.assertGreater(refused, 3000)

    def test_bent_texts_of_forms(self):
        refused, bad = 0, 0
        for seed, form in enumerate([FORM] + [made_form(seed, 1 + seed % 5, deeds=3) for seed in range(20)]):
            text = show_form(form)
            for other in self.bends(text, seed, 60):
                try:
                    read = read_form(other)
                    self.assertEqual(show_form(read), other)
                    self.assertIs(is_good(read), True)
                except NoText:
                    refused += 1
                except NoForm:
                    bad += 1
        self.assertGreater(refused, 3000)
        self.assertGreater(bad, 300)


class NoTexts(Looks):
    BOTH = ["", "\n", "measure 10", "measure 10\n", "measure 10\nblock 0", "measure 10\nblock 0\n", "block 0\nstop",
            "measure 10\nstop", "measure 10\nblock 0\nstop\n", "\nmeasure 10\nblock 0\nstop",
            "measure 10\n\nblock 0\nstop", "measure 10\nblock 0\n\nstop", "measure 10\nblock 0\nstop\n\n",
            " measure 10\nblock 0\nstop", "measure 10 \nblock 0\nstop", "measure  10\nblock 0\nstop",
            "measure 10\nblock 0 \nstop", "measure 10\n block 0\nstop", "measure 10\nblock  0\nstop",
            "measure 10\nblock 0\nstop ", "measure 10\nblock 0\n stop", "measure 10\nblock 0\nSTOP",
            "measure\nblock 0\nstop", "measure 10 10\nblock 0\nstop", "Measure 10\nblock 0\nstop",
            "measure ten\nblock 0\nstop", "measure 010\nblock 0\nstop", "measure +10\nblock 0\nstop",
            "measure -10\nblock 0\nstop", "measure 1_0\nblock 0\nstop", "measure 10\nblock\nstop",
            "measure 10\nblock 0\nblock 1\nstop", "measure 10\nblock 0\nstop\nstop", "measure 10\nblock 0\ngo 0\nstop",
            "measure 10\nblock 0\nstop\ngo 0", "measure 10\nblock 0\ntell 1", "measure 10\nblock 00\nstop",
            "measure 10\nblock 0\ngo", "measure 10\nblock 0\ngo 0 0", "measure 10\nblock 0\ngo 00",
            "measure 10\nblock 0\ngo -1", "measure 10\nblock 0\ngo begin", "measure 10\nblock 0\nchoose 1 0",
            "measure 10\nblock 0\nchoose 1 0 0 0", "measure 10\nblock 0\nchoose 0 0", "measure 10\nblock 0\nstop 0",
            "measure 10\nblock -1\nstop", "measure 10\nblock begin\nstop", "measure 10\nblock 0 0\nstop",
            "measure 10\nmeasure 10\nblock 0\nstop", "measure 10\nblock 0\nmeasure 10\nstop", "stop",
            "measure 10 block 0 stop",
            "measure 10\nblock 0\ntell\nstop", "measure 10\nblock 0\ntell 1 1\nstop",
            "measure 10\nblock 0\nsay 1\nstop",
            "measure 10\nblock 0\ntell 1;\nstop", "measure 10\nblock 0\ntell -1\nstop",
            "measure 10\nblock 0\ntell 01\nstop",
            "measure 10\nblock 0\ntell \nstop", "measure 10\nblock 0\ntell  1\nstop", "measure 10;block 0;stop"]

    def test_of_both(self):
        self.no_text(read_program, *self.BOTH)
        self.no_text(read_form, *self.BOTH)

    def program(self, *rows, measure=10):
        return "\n".join([f"measure {measure}", "block 0"] + list(rows) + ["stop"])

    def test_deeds_of_programs(self):
        for row in ["put a = 1", "put a = b", "put a = 1 + 1", "put a = a = a", "tell a", "tell 0", "put abcdef = 9"]:
            self.assertEqual(show_program(read_program(self.program(row))), self.program(row))
        rows = ["put a 1", "put a = ", "put a =", "put a= 1", "put a =1", "put = 1", "put 1 = 1", "put A = 1",
                "put a = A",
                "put abcdefg = 1", "put a = abcdefg", "put a1 = 1", "put a = b1", "put a = 1b", "put a.1 = 1",
                "put a = b.1", "tell b.1", "tell a.0", "put a = 1 +", "put a = + 1", "put a = 1 plus 1",
                "put a = 1 / 1",
                "put a = 1 > 1", "put a = 1+1", "put a = 1 +  1", "put a = 1  + 1", "put  a = 1", "put a  = 1",
                "put a =  1", "put a = 1 + 1 + 1", "put a = 1 1", "put a = -1", "put a := 1", "put a == 1", "Put a = 1",
                "join a = begin:0", "join a.1 = begin:0", "tell a + 1", "put a = 1 ", " put a = 1", "put a = 1 + ",
                "put a = a == a", "put a = a = ", "put a b = 1", "put put a = 1", "tell a b", "tell", "put", "", " "]
        self.no_text(read_program, *[self.program(row) for row in rows])

    def test_measures_of_programs(self):
        for measure in (2, 10, 10 ** 9):
            self.assertEqual(read_program(self.program(measure=measure)), (measure, [([], STOP)]))
        self.no_text(read_program, *[self.program(measure=other) for other in
                                     (0, 1, -2, 10 ** 9 + 1, 9999999999, 10 ** 10, "9" * 5000, "1000000000.")])

    def test_numbers_of_programs(self):
        for n, measure in [(0, 2), (1, 2), (9, 10), (10 ** 9 - 1, 10 ** 9)]:
            self.assertEqual(read_program(self.program(f"tell {n}", measure=measure))[1][0][0], [tell(number(n))])
        for n, measure in [(2, 2), (10, 10), (11, 10), (10 ** 9, 10 ** 9), (9999999999, 10), (10 ** 10, 10)]:
            self.no_text(read_program, *[self.program(row, measure=measure) for row in (
                f"tell {n}", f"put a = {n}", f"put a = {n} + 1", f"put a = 1 + {n}")])
            self.no_text(read_program, f"measure {measure}\nblock 0\nchoose {n} 0 0")

    def test_blocks_of_programs(self):
        two = "measure 10\nblock {}\nstop\nblock {}\nstop"
        self.assertEqual(read_program(two.format(0, 1)), (10, [([], STOP)] * 2))
        self.no_text(read_program,
                     *[two.format(*each) for each in [(1, 0), (0, 0), (0, 2), (1, 2), (0, "01"), (0, -1)]])
        self.no_text(read_program, "measure 10\nblock 1\nstop", "measure 10\nblock 0\ngo 1",
                     "measure 10\nblock 0\ngo 9",
                     "measure 10\nblock 0\nchoose a 0 1", "measure 10\nblock 0\nchoose a 1 0",
                     two.format(0, 1) + "\ngo 0",
                     "measure 10\nblock 0\ngo 9999999999", "measure 10\nblock 0\ngo 2\nblock 1\nstop")
        self.assertEqual(read_program("measure 10\nblock 0\nchoose a 1 0\nblock 1\ngo 1")[1][0][1],
                         choose(name("a"), 1, 0))

    def test_a_block_that_is_not_reached_is_read_in_a_program(self):
        self.assertEqual(read_program("measure 10\nblock 0\nstop\nblock 1\ngo 0"), (10, [([], STOP), ([], go(0))]))

    def test_many_blocks_deeds_and_names_in_a_program(self):
        names = [a + b for a in "abcdefghij" for b in "abcdefghij"]
        program = (10, [([put(text, number(1)) for text in names], go((block + 1) % 120)) for block in range(120)])
        self.assertEqual(read_program(show_program(program)), program)

    def test_deeds_of_forms(self):
        for row in ["put a.1 = 1", "put a.1 = b.0", "put a.999 = 1 + 1", "put a.1 = a.0 = a.0", "tell a.0", "tell 0"]:
            self.assertEqual(show_form(read_form(self.program(row))), self.program(row))
        rows = ["put a = 1", "put a.1 = b", "tell a", "tell a.", "tell .0", "tell a.00", "tell a.01", "tell a.-1",
                "tell a.0.0", "tell a. 0", "tell a .0", "tell abcdefg.0", "tell A.0", "tell a1.0",
                "put a.1 = a.0 / a.0",
                "put a.1 = 1 +", "put a.1 =", "put a.1 1", "put .1 = 1", "put 1.1 = 1", "tell a,0", "tell 1.0",
                "put abcdefg.1 = 1", "put a.1 = a.0 + abcdefg.0", "put a.b = 1", "tell a.b"]
        self.no_text(read_form, *[self.program(row) for row in rows])

    def test_joins(self):
        form = read_form("measure 10\nblock 0\njoin a.1 = begin:b.0, 0:7\ngo 0")
        self.assertEqual(form, (10, [(0, [(A1, [(-1, name(once("b", 0))), (0, number(7))])], [], go(0))]))
        rows = ["join a.1 =", "join a.1 = ", "join a.1", "join a.1 = begin", "join a.1 = begin:", "join a.1 = :0",
                "join a.1 = begin:0,", "join a.1 = begin:0, ", "join a.1 = begin:0,0:7", "join a.1 = begin:0,  0:7",
                "join a.1 = begin:0 , 0:7", "join a.1 = begin: 0, 0:7", "join a.1 = begin :0, 0:7", "join a = begin:0",
                "join a.1 = 0:7, begin:0", "join a.1 = begin:0, begin:0", "join a.1 = begin:0, 0:7, 0:7",
                "join a.1 = begin:0, 5:1, 4:1", "join a.1 = begin:0, 4:1, 4:1", "join a.1 = -1:0, 0:7",
                "join a.1 = begin:0 0:7", "join a.1 = begin:0; 0:7", "join a.1 = begin:0, 00:7", "join a.1 = begin:00",
                "join a.1 == begin:0, 0:7", "join a.1 begin:0, 0:7", "join 1 = begin:0", "join  a.1 = begin:0, 0:7",
                "join a.1  = begin:0, 0:7", "join a.1 =  begin:0, 0:7", "join a.1 = begin:0, 0:7 ", "join = begin:0",
                "join abcdefg.1 = begin:0, 0:7", "join a.1 = begin:abcdefg.0, 0:7", "join a.1 = begin:b, 0:7",
                "join a.1 = Begin:0, 0:7", "join a.1 = begin:1 + 1, 0:7", "join a.1 = begin:0:0, 0:7",
                "join a.1, b.1 = 0:7",
                "join a.1 = begin:0, b.1:7", "joins a.1 = begin:0, 0:7", ", join a.1 = begin:0", "join a.1 = , 0:7"]
        self.no_text(read_form, *[f"measure 10\nblock 0\n{row}\ngo 0" for row in rows])

    def test_joins_stand_ahead_of_the_deeds(self):
        join, deed = "join a.1 = begin:0, 0:1", "tell 1"
        rows = ["measure 10", "block 0"]
        self.assertEqual(len(read_form("\n".join(rows + [join, deed, "go 0"]))[1][0][1]), 1)
        other = join.replace("a.1", "b.1")
        for body in [[deed, join], [join, deed, other], [deed, deed, join, other], [deed, join, deed]]:
            self.no_text(read_form, "\n".join(rows + body + ["go 0"]))
        self.no_text(read_form, "\n".join(rows + ["go 0", join]), "\n".join(rows + [deed, join]))


class Figures(Looks):
    TEN, ELEVEN = "9999999999", "10000000000"

    def test_ten_figures_are_read_and_seen_by_the_looker(self):
        self.no_form(f"measure {self.TEN}\nblock 0\nstop", f"measure 10\nblock 0\ntell {self.TEN}\nstop",
                     f"measure 10\nblock 0\nput a.{self.TEN} = 1\nstop", f"measure 10\nblock {self.TEN}\nstop",
                     f"measure 10\nblock 0\ngo {self.TEN}", f"measure 10\nblock 0\nchoose 1 0 {self.TEN}",
                     f"measure 10\nblock 0\njoin a.1 = begin:0, {self.TEN}:1\nstop")
        text = f"measure 10\nblock 0\ngo {self.TEN}\nblock {self.TEN}\njoin a.1 = 0:4\nstop"
        self.assertEqual(read_form(text),
                         (10, [(0, [], [], go(9999999999)), (9999999999, [(A1, [(0, number(4))])], [], STOP)]))

    def test_eleven_figures_are_not_read(self):
        for eleven in (self.ELEVEN, "0" + self.TEN, "9" * 5000):
            self.no_text(read_form, f"measure {eleven}\nblock 0\nstop", f"measure 10\nblock 0\ntell {eleven}\nstop",
                         f"measure 10\nblock 0\nput a.{eleven} = 1\nstop", f"measure 10\nblock {eleven}\nstop",
                         f"measure 10\nblock 0\ngo {eleven}", f"measure 10\nblock 0\nchoose 1 0 {eleven}",
                         f"measure 10\nblock 0\nchoose 1 {eleven} 0", f"measure 10\nblock 0\nchoose {eleven} 0 0",
                         f"measure 10\nblock 0\njoin a.1 = begin:0, {eleven}:1\nstop",
                         f"measure 10\nblock 0\njoin a.1 = begin:{eleven}\nstop",
                         f"measure 10\nblock 0\ngo {eleven}\nblock {eleven}\nstop")
            self.no_text(read_program, f"measure {eleven}\nblock 0\nstop", f"measure 10\nblock 0\ntell {eleven}\nstop",
                         f"measure 10\nblock {eleven}\nstop", f"measure 10\nblock 0\ngo {eleven}")


class NoForms(Looks):
    def test_read_but_not_good(self):
        self.no_form("measure 0\nblock 0\nstop", "measure 1\nblock 0\nstop", "measure 1000000001\nblock 0\nstop",
                     "measure 10\nblock 1\nstop", "measure 10\nblock 0\nstop\nblock 0\nstop",
                     "measure 10\nblock 0\nstop\nblock 1\nstop", "measure 10\nblock 0\ngo 1",
                     "measure 10\nblock 0\ntell 10\nstop", "measure 10\nblock 0\ntell a.1\nstop",
                     "measure 10\nblock 0\nput a.0 = 1\nstop", "measure 10\nblock 0\nput a.1000 = 1\nstop",
                     "measure 10\nblock 0\nput a.1 = 1\nput a.1 = 1\nstop", "measure 10\nblock 0\njoin a.1 = 0:1\nstop",
                     "measure 10\nblock 0\njoin a.1 = begin:1, 5:1\nstop",
                     "measure 10\nblock 0\njoin a.1 = begin:b.1\nstop")

    def test_blocks_in_another_order(self):
        head, first, second, third = "measure 10", "block 0\ngo 2", "block 2\ngo 7", "block 7\nstop"
        self.assertEqual(len(read_form("\n".join([head, first, second, third]))[1]), 3)
        for order in [(second, first, third), (first, third, second), (third, second, first), (first, second, second)]:
            self.no_form("\n".join((head,) + order))

    def test_no_text_comes_first(self):
        self.no_text(read_form, "measure 1\nblock 0\nstop\n", "measure 1\nblock 0\ntell abcdefg.0\nstop",
                     "measure 10\nblock 1\ngo 0\nblock 0\nhalt", "measure 10\nblock 0\ntell a.1\ntell a\nstop",
                     "measure 10\nblock 0\njoin a.0 = 0:1, begin:1\nstop",
                     "measure 0\nblock 5\nstop\nblock 4\nblock 3\nstop",
                     "measure 10\nblock 0\nput a.0 = 10\nput a.0 = 10000000000\nstop")


class Asking(unittest.TestCase):
    def test_the_answers_are_the_askers_own(self):
        for seed in range(30):
            program = made_program(seed, 1 + seed % 9)
            form = parted(program)
            check_asking(self, read_program, check_asking(self, show_program, program))
            check_asking(self, read_form, check_asking(self, show_form, form))
            check_asking(self, show_form, made_form(seed))

    def test_kinds_of_texts(self):
        self.assertIs(type(show_program(PROGRAM)), str)
        self.assertIs(type(show_form(FORM)), str)

    def test_by_names_of_the_arguments(self):
        self.assertEqual(show_program(program=PROGRAM), PROGRAM_TEXT)
        self.assertEqual(show_form(form=FORM), FORM_TEXT)
        self.assertEqual(read_program(text=PROGRAM_TEXT), PROGRAM)
        self.assertEqual(read_form(text=FORM_TEXT), FORM)


if __name__ == "__main__":
    unittest.main()
