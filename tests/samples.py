"""Programs and looks at answers that several tests need."""

import copy
import itertools
import random

OPS = ["plus", "less", "times", "below", "same"]


def number(n):
    return ("number", n)


def name(text):
    return ("name", text)


def once(text, k):
    return (text, k)


def put(text, worth):
    return ("put", text, worth)


def tell(part):
    return ("tell", part)


def go(block):
    return ("go", block)


def choose(part, block, other):
    return ("choose", part, block, other)


STOP = ("stop",)


def shape(*endings, measure=10):
    """A program without deeds. An ending is the list of blocks it leads to, two at most."""
    words = {0: lambda: STOP, 1: go, 2: lambda b, c: choose(name("a"), b, c)}
    return (measure, [([], words[len(ending)](*ending)) for ending in endings])


def ends_of(program, block):
    """The blocks that a block leads to, read straight from its ending."""
    if block == -1:
        return [0]
    return [thing for thing in program[1][block][1][1:] if isinstance(thing, int)]


def shapes(blocks):
    """All programs of so many blocks without deeds; of two that differ in the order of a choice alone, one."""
    ends = [[]] + [[b] for b in range(blocks)] + [[b, c] for b in range(blocks) for c in range(b)]
    return [shape(*each) for each in itertools.product(ends, repeat=blocks)]


def with_puts(program, text, places):
    """The program with a put of the name in each of the places."""
    deeds = [[put(text, number(1))] if block in places else [] for block in range(len(program[1]))]
    return (program[0], [(deeds[at] + list(rows), ending) for at, (rows, ending) in enumerate(program[1])])


def subsets(things):
    return [each for many in range(len(things) + 1) for each in itertools.combinations(things, many)]


def named(part):
    return [part[1]] if part[0] == "name" else []


def events(deeds, ending):
    """What is done with names, in order: ("use", NAME) and ("put", NAME)."""
    found = []
    for deed in deeds:
        worth = deed[-1]
        parts = worth[1:] if len(worth) == 3 else (worth,)
        found += [("use", text) for part in parts for text in named(part)]
        found += [("put", deed[1])] if deed[0] == "put" else []
    return found + [("use", text) for part in ending[1:2] if ending[0] == "choose" for text in named(part)]


def first_event(program, block, text):
    """What the block does first with the name: "use", "put", or None."""
    return next((word for word, other in events(*program[1][block]) if other == text), None)


def made_program(seed, blocks, names=4, deeds=8, stops=True):
    """A program by chance, the same for the same seed."""
    rng = random.Random(seed)
    measure = rng.choice([2, 3, 7, 10, 1000, 10 ** 9])
    texts = ["abcdefghijklmnopqrstuvwxyz"[k % 26] * (k // 26 + 1) for k in range(names)]

    def part():
        return name(rng.choice(texts)) if rng.random() < 0.7 else number(rng.randrange(measure))

    def worth():
        return part() if rng.random() < 0.2 else (rng.choice(OPS), part(), part())

    def deed():
        return put(rng.choice(texts), worth()) if rng.random() < 0.7 else tell(part())

    def ending():
        word = rng.choice(["go", "choose", "choose", "choose"] + ["stop"] * stops)
        if word == "stop":
            return STOP
        if word == "go":
            return go(rng.randrange(blocks))
        return choose(part(), rng.randrange(blocks), rng.randrange(blocks))

    return (measure, [([deed() for k in range(rng.randint(0, deeds))], ending()) for block in range(blocks)])


def made_given(seed, program):
    rng = random.Random(seed)
    return {text: rng.randrange(program[0]) for text in "abcdz" if rng.random() < 0.7}


def texts_and_numbers(value, place=()):
    """Every text and number in the value, each behind its place."""
    if not isinstance(value, (list, tuple)):
        return [(place, value)]
    return [each for at, thing in enumerate(value) for each in texts_and_numbers(thing, place + (at,))]


def replaced(value, place, thing):
    """A copy of the value with another thing at the place."""
    if not place:
        return thing
    return type(value)(replaced(each, place[1:], thing) if at == place[0] else copy.deepcopy(each)
                       for at, each in enumerate(value))


def lists_within(value):
    """Every list that stands in the value, itself too, as often as it stands there."""
    if isinstance(value, dict):
        return [each for thing in value.values() for each in lists_within(thing)]
    if not isinstance(value, (list, tuple)):
        return []
    found = [value] if isinstance(value, list) else []
    return found + [each for thing in value for each in lists_within(thing)]


def check_asking(test, function, *handed):
    """Looks that asking changes nothing handed in, and that the answer is the asker's own. Tells the answer."""
    before = copy.deepcopy(handed)
    answer = function(*handed)
    test.assertEqual(handed, before)
    kept = copy.deepcopy(answer)
    lists = lists_within(answer)
    places = [id(each) for each in lists]
    test.assertEqual(len(places), len(set(places)), "a list stands at two places")
    test.assertFalse(set(places) & {id(each) for each in lists_within(handed)}, "a list is the one handed in")
    test.assertEqual(function(*handed), kept)
    test.assertEqual(answer, kept, "asking again changed an answer")
    for each in lists:
        each.append("changed")
    test.assertEqual(handed, before)
    test.assertEqual(function(*handed), kept, "a changed answer changed a later one")
    return kept
