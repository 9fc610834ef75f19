"""Forms: the parted form of a program, and how a form is done."""

from oncenames.errors import NoForm
from oncenames.looker import is_good
from oncenames.meets import joins_of
from oncenames.programs import OPS, do_deeds, led_on, part_now
from oncenames.ways import BEGIN, nearest_masters, reached_leads, sources_of


def parted(program):
    """The parted form of the program."""
    measure, blocks = program
    leads = reached_leads(program)
    nearest = nearest_masters(leads)
    joined = joined_names(joins_of(program), leads)
    ends = {BEGIN: {}}
    counts = {}
    bodies = {}
    # A name that isn't joined at a block comes there as it was at the end of the nearest master, which goes ahead.
    for block in nearest:
        now = dict(ends[nearest[block]])
        heads = [put_anew(name, now, counts) for name in joined[block]]
        deeds, ending = blocks[block]
        bodies[block] = (heads, [parted_deed(deed, now, counts) for deed in deeds], parted_ending(ending, now))
        ends[block] = now
    sources = sources_of(leads)
    rows = []
    for block in sorted(bodies):
        heads, deeds, ending = bodies[block]
        rows.append((block, [join_of(once, sources[block], ends) for once in heads], deeds, ending))
    return (measure, rows)


def joined_names(joins, leads):
    """For each of the leads the names that are joined there, in Python's order."""
    joined = {block: [] for block in leads}
    for block, name in joins:
        joined[block].append(name)
    return joined


def put_anew(name, now, counts):
    """A new once-name, which from here on stands for the name."""
    counts[name] = counts.get(name, 0) + 1
    now[name] = (name, counts[name])
    return now[name]


def join_of(once, sources, ends):
    name = once[0]
    return (once, [(source, ("name", once_now(name, ends[source]))) for source in sources])


def once_now(name, now):
    return now.get(name, (name, 0))


def parted_deed(deed, now, counts):
    if deed[0] == "tell":
        return ("tell", parted_part(deed[1], now))
    # The worth is used ahead of the put.
    worth = parted_worth(deed[2], now)
    return ("put", put_anew(deed[1], now, counts), worth)


def parted_worth(worth, now):
    if worth[0] in OPS:
        return (worth[0], parted_part(worth[1], now), parted_part(worth[2], now))
    return parted_part(worth, now)


def parted_part(part, now):
    return ("name", once_now(part[1], now)) if part[0] == "name" else part


def parted_ending(ending, now):
    if ending[0] == "choose":
        return ("choose", parted_part(ending[1], now), ending[2], ending[3])
    return ending


def run_form(form, given, many):
    """What the form tells in the first many blocks that are entered, and whether stop was come to in them."""
    if not is_good(form):
        raise NoForm("the form isn't good")
    measure, rows = form
    found = {row[0]: row[1:] for row in rows}
    worths = {(name, 0): given[name] for name in given}
    told = []
    source = BEGIN
    block = 0
    for entered in range(many):
        joins, deeds, ending = found[block]
        do_joins(joins, source, worths)
        do_deeds(deeds, worths, told, measure)
        if ending[0] == "stop":
            return told, True
        source = block
        block = led_on(ending, worths)
    return told, False


def do_joins(joins, source, worths):
    """Does the joins all at once, by the worths ahead of them."""
    came = {}
    for once, parts in joins:
        for begin, part in parts:
            if begin == source:
                came[once] = part_now(part, worths)
    worths.update(came)
