"""Programs: what their names are, and how they are done."""


def plus(first, second, measure):
    return (first + second) % measure


def less(first, second, measure):
    return (first - second) % measure


def times(first, second, measure):
    return (first * second) % measure


def below(first, second, measure):
    return 1 if first < second else 0


def same(first, second, measure):
    return 1 if first == second else 0


OPS = {"plus": plus, "less": less, "times": times, "below": below, "same": same}


def run(program, given, many):
    """What the program tells in the first many blocks that are entered, and whether stop was come to in them."""
    measure, blocks = program
    # A copy, for puts change it, and what is handed in must stay as it was.
    worths = dict(given)
    told = []
    block = 0
    for entered in range(many):
        deeds, ending = blocks[block]
        do_deeds(deeds, worths, told, measure)
        if ending[0] == "stop":
            return told, True
        block = led_on(ending, worths)
    return told, False


def do_deeds(deeds, worths, told, measure):
    for deed in deeds:
        if deed[0] == "put":
            worths[deed[1]] = worth_now(deed[2], worths, measure)
        else:
            told.append(part_now(deed[1], worths))


def led_on(ending, worths):
    """The block that an ending but stop leads to."""
    if ending[0] == "go":
        return ending[1]
    return ending[2] if part_now(ending[1], worths) != 0 else ending[3]


def worth_now(worth, worths, measure):
    if worth[0] not in OPS:
        return part_now(worth, worths)
    op = OPS[worth[0]]
    return op(part_now(worth[1], worths), part_now(worth[2], worths), measure)


def part_now(part, worths):
    return part[1] if part[0] == "number" else worths.get(part[1], 0)


def names_of(program):
    """All names that the program puts or uses, in blocks that aren't reached too."""
    names = []
    for deeds, ending in program[1]:
        for deed in deeds:
            names.extend(names_of_deed(deed))
        names.extend(names_used(parts_of_ending(ending)))
    return sorted(set(names))


def names_of_deed(deed):
    used = names_used(parts_of_deed(deed))
    return [deed[1]] + used if deed[0] == "put" else used


def names_used(parts):
    return [part[1] for part in parts if part[0] == "name"]


def parts_of_deed(deed):
    return parts_of_worth(deed[2]) if deed[0] == "put" else [deed[1]]


def parts_of_worth(worth):
    return [worth[1], worth[2]] if worth[0] in OPS else [worth]


def parts_of_ending(ending):
    return [ending[1]] if ending[0] == "choose" else []


def worth_by(worth, names):
    """The worth with other names in the place of its own."""
    return (worth[0], part_by(worth[1], names), part_by(worth[2], names)) if worth[0] in OPS else part_by(worth, names)


def part_by(part, names):
    return ("name", names[part[1]]) if part[0] == "name" else part


def ending_by(ending, names):
    if ending[0] == "choose":
        return ("choose", part_by(ending[1], names), ending[2], ending[3])
    return ending
