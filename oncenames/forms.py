"""Forms: the parted form of a program, and how a form is done."""

from oncenames.looker import refuse_unless_good
from oncenames.meets import joins_of
from oncenames.programs import do_deeds, ending_by, led_on, names_of, part_by, part_now, worth_by
from oncenames.ways import BEGIN, nearest_masters, reached_leads, sources_of


def parted(program):
    """The parted form of the program."""
    measure, blocks = program
    leads = reached_leads(program)
    nearest = nearest_masters(leads)
    joined = joined_names(joins_of(program), leads)
    ends = {BEGIN: {name: (name, 0) for name in names_of(program)}}
    counts = {}
    bodies = {}
    # A name that isn't joined at a block comes there as it was at the end of the nearest master, which goes ahead.
    for block in nearest:
        now = dict(ends[nearest[block]])
        heads = [put_anew(name, now, counts) for name in joined[block]]
        deeds, ending = blocks[block]
        bodies[block] = (heads, [parted_deed(deed, now, counts) for deed in deeds], ending_by(ending, now))
        ends[block] = now
    sources = sources_of(leads)
    rows = []
    for block in sorted(bodies):
        heads, deeds, ending = bodies[block]
        rows.append((block, [join_of(once, sources[block], ends) for once in heads], deeds, ending))
    return (measure, rows)


def joined_names(joins, leads):
    """For each of the leads the names that are joined there, in Python's order."""
    joined = {block: [] for block in leads}
    for block, name in joins:
        joined[block].append(name)
    return joined


def put_anew(name, now, counts):
    """A new once-name, which from here on stands for the name."""
    counts[name] = counts.get(name, 0) + 1
    now[name] = (name, counts[name])
    return now[name]


def join_of(once, sources, ends):
    part = ("name", once[0])
    return (once, [(source, part_by(part, ends[source])) for source in sources])


def parted_deed(deed, now, counts):
    if deed[0] == "tell":
        return ("tell", part_by(deed[1], now))
    # The worth is used ahead of the put.
    worth = worth_by(deed[2], now)
    return ("put", put_anew(deed[1], now, counts), worth)


def run_form(form, given, many):
    """What the form tells in the first many blocks that are entered, and whether stop was come to in them."""
    refuse_unless_good(form)
    measure, rows = form
    found = {row[0]: row[1:] for row in rows}
    worths = {(name, 0): given[name] for name in given}
    told = []
    source = BEGIN
    block = 0
    for entered in range(many):
        joins, deeds, ending = found[block]
        do_joins(joins, source, worths)
        do_deeds(deeds, worths, told, measure)
        if ending[0] == "stop":
            return told, True
        source = block
        block = led_on(ending, worths)
    return told, False


def do_joins(joins, source, worths):
    """Does the joins all at once, by the worths ahead of them."""
    came = {}
    for once, parts in joins:
        for begin, part in parts:
            if begin == source:
                came[once] = part_now(part, worths)
    worths.update(came)
