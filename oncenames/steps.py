"""Steps of change: those that a form has, the form behind one of them, and the form that has none left."""

from oncenames.errors import NoStep
from oncenames.looker import leads_of_rows, refuse_unless_good
from oncenames.programs import OPS
from oncenames.sheets import first_pair_alike, laid_out, lay, lift, other_parts, pairs_alike, stand_for, written
from oncenames.ways import BEGIN, blocks_of_ending, came_from, sources_of


def steps(form):
    """All steps that the form has, in Python's order."""
    refuse_unless_good(form)
    sheet = laid_out(form)
    told = [("settle", block) for block in unsettled(form)]
    told.extend([("like", once, other) for once, other in pairs_alike(sheet)])
    for word in sheet.found:
        told.extend([(word, once) for once in sheet.found[word]])
    return sorted(told)


def step(form, one):
    """The form behind one of its steps."""
    if one not in steps(form):
        raise NoStep("the form doesn't have that step")
    if one[0] == "settle":
        return settled(form, one[1])
    sheet = laid_out(form)
    do_step(sheet, one)
    return written(sheet)


def tidy(form):
    """The form behind its first step in Python's order, again and again, until there is none."""
    refuse_unless_good(form)
    while True:
        sheet = laid_out(form)
        do_all_but_settles(sheet)
        form = written(sheet)
        # Settles come last in Python's order. One changes who masters whom: so the form is laid out anew behind it.
        blocks = unsettled(form)
        if not blocks:
            return form
        form = settled(form, blocks[0])


def do_all_but_settles(sheet):
    one = first_but_settles(sheet)
    while one is not None:
        do_step(sheet, one)
        one = first_but_settles(sheet)


def first_but_settles(sheet):
    """The first step in Python's order that is no settle, None where there is none."""
    for word in ("copy", "idle", "like", "one", "reckon"):
        if word == "like":
            pair = first_pair_alike(sheet)
            if pair is not None:
                return (word, pair[0], pair[1])
        elif sheet.found[word]:
            return (word, min(sheet.found[word]))
    return None


def do_copy(sheet, once):
    stand_for(sheet, once, sheet.parts[once][0])


def do_idle(sheet, once):
    lift(sheet, once)


def do_one(sheet, once):
    stand_for(sheet, once, other_parts(sheet, once)[0])


def do_reckon(sheet, once):
    op = OPS[sheet.ops[once]]
    first, second = lift(sheet, once)
    sheet.ops[once] = None
    lay(sheet, once, [("number", op(first[1], second[1], sheet.measure))])


ACTS = {"copy": do_copy, "idle": do_idle, "one": do_one, "reckon": do_reckon}


def do_step(sheet, one):
    """Does a step that is no settle."""
    if one[0] == "like":
        stand_for(sheet, one[2], ("name", one[1]))
    else:
        act = ACTS[one[0]]
        act(sheet, one[1])


def unsettled(form):
    """The blocks whose endings can be settled, rising."""
    return [block for block, joins, deeds, ending in form[1] if can_settle(ending)]


def can_settle(ending):
    return ending[0] == "choose" and (ending[1][0] == "number" or ending[2] == ending[3])


def settled_ending(ending):
    # Where the part is a name both blocks are the same.
    return ("go", ending[3] if ending[1] == ("number", 0) else ending[2])


def settled(form, settling):
    """The form with the block's ending settled."""
    measure, rows = form
    leads = leads_of_rows(rows)
    endings = {block: settled_ending(ending) if block == settling else ending for block, joins, deeds, ending in rows}
    leads[settling] = blocks_of_ending(endings[settling])
    reached = came_from(leads, BEGIN, None)
    sources = sources_of({source: leads[source] for source in leads if source in reached})
    told = []
    for block, joins, deeds, ending in rows:
        if block in reached:
            heads = [(once, [(source, part) for source, part in parts if source in sources[block]])
                     for once, parts in joins]
            told.append((block, heads, list(deeds), endings[block]))
    return (measure, told)
