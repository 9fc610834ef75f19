"""Programs and looks at answers that several tests need."""

import copy
import itertools
import random

OPS = ["plus", "less", "times", "below", "same"]


def number(n):
    return ("number", n)


def name(text):
    return ("name", text)


def once(text, k):
    return (text, k)


def put(text, worth):
    return ("put", text, worth)


def tell(part):
    return ("tell", part)


def go(block):
    return ("go", block)


def choose(part, block, other):
    return ("choose", part, block, other)


STOP = ("stop",)


def shape(*endings, measure=10):
    """A program without deeds. An ending is the list of blocks it leads to, two at most."""
    words = {0: lambda: STOP, 1: go, 2: lambda b, c: choose(name("a"), b, c)}
    return (measure, [([], words[len(ending)](*ending)) for ending in endings])


def ends_of(program, block):
    """The blocks that a block leads to, read straight from its ending."""
    if block == -1:
        return [0]
    return [thing for thing in program[1][block][1][1:] if isinstance(thing, int)]


def shapes(blocks):
    """All programs of so many blocks without deeds; of two that differ in the order of a choice alone, one."""
    ends = [[]] + [[b] for b in range(blocks)] + [[b, c] for b in range(blocks) for c in range(b)]
    return [shape(*each) for each in itertools.product(ends, repeat=blocks)]


def with_puts(program, text, places):
    """The program with a put of the name in each of the places."""
    deeds = [[put(text, number(1))] if block in places else [] for block in range(len(program[1]))]
    return (program[0], [(deeds[at] + list(rows), ending) for at, (rows, ending) in enumerate(program[1])])


def subsets(things):
    return [each for many in range(len(things) + 1) for each in itertools.combinations(things, many)]


def named(part):
    return [part[1]] if part[0] == "name" else []


def events(deeds, ending):
    """What is done with names, in order: ("use", NAME) and ("put", NAME)."""
    found = []
    for deed in deeds:
        worth = deed[-1]
        parts = worth[1:] if len(worth) == 3 else (worth,)
        found += [("use", text) for part in parts for text in named(part)]
        found += [("put", deed[1])] if deed[0] == "put" else []
    return found + [("use", text) for part in ending[1:2] if ending[0] == "choose" for text in named(part)]


def first_event(program, block, text):
    """What the block does first with the name: "use", "put", or None."""
    return next((word for word, other in events(*program[1][block]) if other == text), None)


def made_program(seed, blocks, names=4, deeds=8, stops=True):
    """A program by chance, the same for the same seed."""
    rng = random.Random(seed)
    measure = rng.choice([2, 3, 7, 10, 1000, 10 ** 9])
    texts = ["abcdefghijklmnopqrstuvwxyz"[k % 26] * (k // 26 + 1) for k in range(names)]

    def part():
        return name(rng.choice(texts)) if rng.random() < 0.7 else number(rng.randrange(measure))

    def worth():
        return part() if rng.random() < 0.2 else (rng.choice(OPS), part(), part())

    def deed():
        return put(rng.choice(texts), worth()) if rng.random() < 0.7 else tell(part())

    def ending():
        word = rng.choice(["go", "choose", "choose", "choose"] + ["stop"] * stops)
        if word == "stop":
            return STOP
        if word == "go":
            return go(rng.randrange(blocks))
        return choose(part(), rng.randrange(blocks), rng.randrange(blocks))

    return (measure, [([deed() for k in range(rng.randint(0, deeds))], ending()) for block in range(blocks)])


def made_given(seed, program):
    rng = random.Random(seed)
    return {text: rng.randrange(program[0]) for text in "abcdz" if rng.random() < 0.7}


def texts_and_numbers(value, place=()):
    """Every text and number in the value, each behind its place."""
    if not isinstance(value, (list, tuple)):
        return [(place, value)]
    return [each for at, thing in enumerate(value) for each in texts_and_numbers(thing, place + (at,))]


def replaced(value, place, thing):
    """A copy of the value with another thing at the place."""
    if not place:
        return thing
    return type(value)(replaced(each, place[1:], thing) if at == place[0] else copy.deepcopy(each)
                       for at, each in enumerate(value))


def lists_within(value):
    """Every list that stands in the value, itself too, as often as it stands there."""
    if isinstance(value, dict):
        return [each for thing in value.values() for each in lists_within(thing)]
    if not isinstance(value, (list, tuple)):
        return []
    found = [value] if isinstance(value, list) else []
    return found + [each for thing in value for each in lists_within(thing)]


def check_asking(test, function, *handed):
    """Looks that asking changes nothing handed in, and that the answer is the asker's own. Tells the answer."""
    before = copy.deepcopy(handed)
    answer = function(*handed)
    test.assertEqual(handed, before)
    kept = copy.deepcopy(answer)
    lists = lists_within(answer)
    places = [id(each) for each in lists]
    test.assertEqual(len(places), len(set(places)), "a list stands at two places")
    test.assertFalse(set(places) & {id(each) for each in lists_within(handed)}, "a list is the one handed in")
    test.assertEqual(function(*handed), kept)
    test.assertEqual(answer, kept, "asking again changed an answer")
    for each in lists:
        each.append("changed")
    test.assertEqual(handed, before)
    test.assertEqual(function(*handed), kept, "a changed answer changed a later one")
    return kept


def one_row(deeds, ending=STOP, joins=(), measure=10):
    """A form of block 0 alone."""
    return (measure, [(0, list(joins), list(deeds), ending)])


def ends_of_row(row):
    """The blocks that a form's row leads to, read straight from its ending."""
    return [thing for thing in row[3][1:] if isinstance(thing, int)]


def reached_without(ends, left_out):
    """What is reached from the begin without going through left_out, the begin among it; ends: a dict of blocks."""
    found, line = {-1}, [0]
    while line:
        block = line.pop()
        if block != left_out and block not in found:
            found.add(block)
            line += ends[block]
    return found


def masters_by_reading(ends):
    """For each block the set of its masters, by leaving each block out in turn."""
    past = {block: reached_without(ends, block) for block in ends}
    return {block: {above for above in ends if block not in past[above]} for block in ends}


def made_ends(rng, blocks):
    """For each of some reached blocks the blocks that it leads to, by chance; its numbers have gaps."""
    ends = {}
    for block in range(blocks):
        # Most lead on to one not far behind, so that many are reached.
        near = [rng.randrange(blocks) if rng.random() < 0.4 else min(block + rng.randint(1, 3), blocks - 1)
                for side in range(2)]
        ends[block] = near[:rng.choice([0, 1, 1, 2, 2, 2, 2])]
    reached = sorted(reached_without(ends, None) - {-1})
    far = rng.choice([3, 100, 10 ** 9, 10 ** 15 - 1])
    numbers = [0] + sorted(rng.sample(range(1, max(far, blocks) + 1), len(reached) - 1))
    called = dict(zip(reached, numbers))
    return {called[block]: [called[end] for end in ends[block]] for block in reached}


def made_form(seed, blocks=6, texts=("a", "b", "c"), joins=2, deeds=4):
    """A good form by chance, whoever would write such a one; the same for the same seed."""
    rng = random.Random(seed)
    measure = rng.choice([2, 3, 10, 10, 1000, 10 ** 9])
    ends = made_ends(rng, blocks)
    above = masters_by_reading(ends)
    left = [once(text, k) for text in texts for k in rng.sample(range(1, 1000), 300 // len(texts))]
    rng.shuffle(left)
    joined = {block: [left.pop() for k in range(rng.randint(0, joins))] for block in ends}
    plans = {block: [left.pop() if rng.random() < 0.7 else None for k in range(rng.randint(0, deeds))]
             for block in ends}

    def at_place(block, at):
        """All once-names that may be used at the place."""
        found = [once(text, 0) for text in texts]
        for other in above.get(block, ()):
            found += joined[other] + [each for each in (plans[other][:at] if other == block else plans[other]) if each]
        return found

    def part(block, at):
        if rng.random() < 0.3:
            return small(rng, measure)
        near = at_place(block, at)
        return name(rng.choice(near[-6:] if rng.random() < 0.5 else near))

    def worth(block, at):
        known = [deed[2] for row in rows if row[0] in above[block] for deed in row[2] if deed[0] == "put"]
        if known and rng.random() < 0.2:
            return rng.choice(known)
        return part(block, at) if rng.random() < 0.25 else (rng.choice(OPS), part(block, at), part(block, at))

    rows = []
    for block, leads in ends.items():
        froms = ([-1] if block == 0 else []) + [source for source in ends if block in ends[source]]
        heads = [(each, [(source, part(source, 99)) for source in froms]) for each in joined[block]]
        body = [put(each, worth(block, at)) if each else tell(part(block, at)) for at, each in enumerate(plans[block])]
        ending = {0: lambda: STOP, 1: go, 2: lambda b, c: choose(part(block, 99), b, c)}[len(leads)](*leads)
        rows.append((block, heads, body, ending))
    return (measure, rows)


def small(rng, measure):
    return number(rng.randrange(min(measure, 3)))


def made_givens(seed, form):
    """Several dicts of given names, the empty one too."""
    rng = random.Random(seed)
    texts = ["a", "b", "c", "d", "zzzzzz", "aa"]
    return [{}] + [{text: rng.randrange(form[0]) for text in texts if rng.random() < 0.8} for again in range(3)]
