"""Boxes: the fewest boxes that hold the names of a form, such that two that meet lie in unlike ones."""

from oncenames.looker import given_in_rows, homes_of, leads_of_rows, refuse_unless_good
from oncenames.programs import names_used, parts_of_deed, parts_of_ending
from oncenames.ways import BEGIN, nearest_masters, sources_of


def boxes(form):
    """How many boxes the form's once-names take, the box of each, and so many that each two of them meet."""
    refuse_unless_good(form)
    behind = wanted_behind(form[1])
    laid = {}
    # Whatever is wanted behind a put is put by a master, so it was laid ahead; and as all of it is there together, each
    # two meet: so no box beyond the greatest such crowd is ever taken.
    for once in behind:
        taken = {laid[other]: True for other in behind[once] if other in laid}
        laid[once] = least_free(taken)
    crowd = greatest_crowd(behind)
    return (len(crowd), sorted(laid.items()), crowd)


def shows_boxes(form, told):
    """Whether the told boxes and crowd are such as boxes tells."""
    refuse_unless_good(form)
    many, boxed, crowd = told
    behind = wanted_behind(form[1])
    if [once for once, box in boxed] != sorted(behind):
        return False
    return boxes_fit(many, dict(boxed), behind) and crowd_fits(many, crowd, behind)


def boxes_fit(many, laid, behind):
    """Whether each box is one of so many, and two that meet lie in unlike ones."""
    if not all([0 <= laid[once] < many for once in laid]):
        return False
    return all([laid[once] != laid[other] for once in behind for other in behind[once]])


def crowd_fits(many, crowd, behind):
    """Whether the crowd is of so many that are there, each two of which meet."""
    if len(crowd) != many or not all([once in behind for once in crowd]):
        return False
    # None meets itself: so one that stands twice is seen, too.
    pairs = [(once, other) for at, once in enumerate(crowd) for other in crowd[:at]]
    return all([other in behind[once] or once in behind[other] for once, other in pairs])


def least_free(taken):
    box = 0
    while box in taken:
        box += 1
    return box


def greatest_crowd(behind):
    crowd = []
    for once in behind:
        if len(behind[once]) >= len(crowd):
            crowd = [once] + list(behind[once])
    return sorted(crowd)


def wanted_behind(rows):
    """For each once-name that is there, masters first, a dict of others: those wanted just behind its put or join,
    those joined at the same block, and of one with K 0 all with K 0. Two meet where one has the other."""
    leads = leads_of_rows(rows)
    found = {row[0]: row for row in rows}
    ends = wanted_at_ends(rows, leads)
    behind = all_beside(given_in_rows(rows), {})
    for block in nearest_masters(leads):
        note_row(found[block], ends[block], behind)
    return behind


def note_row(row, end, behind):
    """Notes what is wanted behind the joins and the puts of the row, whose end wants what is told."""
    block, joins, deeds, ending = row
    now = dict(end)
    puts = []
    for deed in reversed(deeds):
        if deed[0] == "put":
            now.pop(deed[1], None)
            puts.append((deed[1], dict(now)))
        now.update({once: True for once in names_used(parts_of_deed(deed))})
    behind.update(all_beside([once for once, parts in joins], now))
    # The puts were come to from the last one on.
    behind.update(dict(puts[::-1]))


def all_beside(onces, others):
    """For each of the once-names a dict of all of them and of the others but itself."""
    beside = {}
    for once in onces:
        beside[once] = dict(others)
        beside[once].update({other: True for other in onces})
        del beside[once][once]
    return beside


def wanted_at_ends(rows, leads):
    """For each block a dict of the once-names that are wanted behind its last deed."""
    homes = homes_of(rows)
    sources = sources_of(leads)
    ends = {block: {} for block in leads}
    line = wants_of_rows(rows, homes, sources)
    while line:
        block, once = line.pop()
        if once not in ends[block]:
            ends[block][once] = True
            line.extend(wants_ahead(block, once, homes, sources))
    return ends


def wants_ahead(block, once, homes, sources):
    """The ends ahead of the block that want what is wanted in it."""
    # Nothing is put at the begin; what is wanted there has K 0.
    if once in homes and homes[once][0] == block:
        return []
    return [(source, once) for source in sources[block]]


def wants_of_rows(rows, homes, sources):
    """The (block, once-name) of uses by endings, by joins, and by deeds of what comes from ahead of their block."""
    found = []
    for block, joins, deeds, ending in rows:
        found.extend([(block, once) for once in names_used(parts_of_ending(ending))])
        for once, parts in joins:
            found.extend([(source, part[1]) for source, part in parts if part[0] == "name"])
        for deed in deeds:
            for once in names_used(parts_of_deed(deed)):
                found.extend(wants_ahead(block, once, homes, sources))
    return found
