"""The looker of forms: whether a form is good, whoever wrote it."""

from oncenames.errors import NoForm
from oncenames.programs import OPS, parts_of_deed, parts_of_ending
from oncenames.ways import BEGIN, blocks_of_ending, came_from, is_master, nearest_masters, sources_of, spans_of

LEAST_MEASURE = 2
GREATEST_MEASURE = 1000000000
LONGEST_NAME = 6
GREATEST_K = 999


def refuse_unless_good(form):
    if not is_good(form):
        raise NoForm("the form isn't good")


def is_good(form):
    """Whether the form is good."""
    measure, rows = form
    if not LEAST_MEASURE <= measure <= GREATEST_MEASURE:
        return False
    if not blocks_rise(rows) or not all([row_is_written(row, measure) for row in rows]):
        return False
    leads = leads_of_rows(rows)
    return all_are_reached(leads) and froms_fit(rows, leads) and all_is_put_once(rows) and uses_fit(rows, leads)


def blocks_rise(rows):
    """Whether there is a first row, it is block 0, and the numbers rise, each once."""
    blocks = [row[0] for row in rows]
    if not blocks or blocks[0] != 0:
        return False
    return all([block < other for block, other in zip(blocks, blocks[1:])])


def row_is_written(row, measure):
    """Whether the row's words, names and numbers are such as may stand there."""
    block, joins, deeds, ending = row
    if not all([join_is_written(join, measure) for join in joins]):
        return False
    return all([deed_is_written(deed, measure) for deed in deeds]) and ending_is_written(ending, measure)


def join_is_written(join, measure):
    once, parts = join
    return is_once_name(once) and all([part_is_written(part, measure) for source, part in parts])


# A word may stand before things that belong to another word: so lengths and kinds are looked at, too.
def deed_is_written(deed, measure):
    if len(deed) == 3:
        return deed[0] == "put" and is_once_name(deed[1]) and worth_is_written(deed[2], measure)
    return len(deed) == 2 and deed[0] == "tell" and part_is_written(deed[1], measure)


def ending_is_written(ending, measure):
    if len(ending) == 1:
        return ending[0] == "stop"
    if len(ending) == 2:
        return ending[0] == "go"
    return len(ending) == 4 and ending[0] == "choose" and part_is_written(ending[1], measure)


def worth_is_written(worth, measure):
    if len(worth) == 3:
        return worth[0] in OPS and part_is_written(worth[1], measure) and part_is_written(worth[2], measure)
    return part_is_written(worth, measure)


def part_is_written(part, measure):
    if len(part) != 2:
        return False
    word, thing = part
    if word == "number":
        return isinstance(thing, int) and 0 <= thing < measure
    return word == "name" and is_once_name(thing)


def is_once_name(thing):
    if not isinstance(thing, tuple):
        return False
    name, k = thing
    return is_name(name) and 0 <= k <= GREATEST_K


def is_name(text):
    return 1 <= len(text) <= LONGEST_NAME and all(["a" <= sign <= "z" for sign in text])


def leads_of_rows(rows):
    """For the begin, then for each row's block in turn, the blocks that it leads to, each once."""
    leads = {BEGIN: [0]}
    for block, joins, deeds, ending in rows:
        leads[block] = blocks_of_ending(ending)
    return leads


def all_are_reached(leads):
    """Whether endings lead to blocks that stand there, and each block is reached."""
    for source in leads:
        for block in leads[source]:
            # The begin is among the leads, but no block.
            if block == BEGIN or block not in leads:
                return False
    return len(came_from(leads, BEGIN, None)) == len(leads)


def froms_fit(rows, leads):
    """Whether each join's froms are just the blocks that lead to it, rising."""
    sources = sources_of(leads)
    for block, joins, deeds, ending in rows:
        for once, parts in joins:
            if [source for source, part in parts] != sources[block]:
                return False
    return True


def all_is_put_once(rows):
    """Whether no once-name is put or joined twice, and none with K 0 at all."""
    seen = {}
    for row in rows:
        for once, place in put_in_row(row):
            if once in seen or once[1] == 0:
                return False
            seen[once] = True
    return True


def put_in_row(row):
    """What is put or joined in the row, each with its place: -1 for joins, which stand ahead of all deeds."""
    block, joins, deeds, ending = row
    found = [(once, -1) for once, parts in joins]
    return found + [(deed[1], at) for at, deed in enumerate(deeds) if deed[0] == "put"]


def used_in_row(row):
    """The parts of deeds and the ending, each with its place."""
    block, joins, deeds, ending = row
    found = [(part, at) for at, deed in enumerate(deeds) for part in parts_of_deed(deed)]
    return found + [(part, len(deeds)) for part in parts_of_ending(ending)]


def homes_of(rows):
    """For all that is put or joined, in the order of the rows, its block and its place there."""
    return {once: (row[0], place) for row in rows for once, place in put_in_row(row)}


def given_in_rows(rows):
    """The once-names with K 0 that are used, each once, in Python's order."""
    parts = [part for row in rows for part, at in used_in_row(row)]
    parts.extend([part for row in rows for once, came in row[1] for source, part in came])
    return sorted({part[1] for part in parts if part[0] == "name" and part[1][1] == 0})


def uses_fit(rows, leads):
    """Whether each once-name that is used has K 0, or is put or joined ahead on each way there."""
    spans = spans_of(nearest_masters(leads))
    homes = homes_of(rows)
    ends = {row[0]: len(row[2]) for row in rows}
    # Nothing is put at the begin: whatever place its end has, nothing stands ahead of it.
    ends[BEGIN] = 0
    for row in rows:
        if not all([is_put_ahead(part, row[0], at, homes, spans) for part, at in used_in_row(row)]):
            return False
        for once, parts in row[1]:
            if not all([is_put_ahead(part, source, ends[source], homes, spans) for source, part in parts]):
                return False
    return True


def is_put_ahead(part, block, at, homes, spans):
    """Whether what the part uses at a place of the block is there on each way to that place."""
    if part[0] == "number" or part[1][1] == 0:
        return True
    if part[1] not in homes:
        return False
    home, place = homes[part[1]]
    if home == block:
        return place < at
    return is_master(spans, home, block)
