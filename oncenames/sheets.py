"""Sheets: a good form laid out by what is put, joined, told and led on, so that a step touches little of it."""

from oncenames.looker import homes_of, is_put_ahead, leads_of_rows
from oncenames.programs import OPS, names_used, parts_of_deed, parts_of_ending
from oncenames.ways import nearest_masters, spans_of


def is_copy(sheet, once):
    return once in sheet.ops and sheet.ops[once] is None


def is_idle(sheet, once):
    # Keys of tells and endings are no once-names, though they stand among the parts.
    if once not in sheet.homes:
        return False
    users = sheet.users.get(once, {})
    return not users or (len(users) == 1 and once in users)


def is_one(sheet, once):
    return once in sheet.froms and len(set(other_parts(sheet, once))) == 1


def is_reckon(sheet, once):
    if once not in sheet.ops or sheet.ops[once] is None:
        return False
    return not names_used(sheet.parts[once])


# The steps that a put or a join has by itself.
ALONE = {"copy": is_copy, "idle": is_idle, "one": is_one, "reckon": is_reckon}


class Sheet:
    """Puts and joins are found by their once-names, tells and endings by their block and place."""

    def __init__(self, form):
        measure, rows = form
        self.measure = measure
        self.rows = rows
        self.homes = homes_of(rows)
        self.spans = spans_of(nearest_masters(leads_of_rows(rows)))
        # Of each put its OP, None where its worth is a part; of each join its froms.
        self.ops = {}
        self.froms = {}
        # Of each put, join, tell and ending that is there its parts; of each once-name a dict of those that use it.
        self.parts = {}
        self.users = {}
        # Of each worth that is no part a dict of those that are put by it.
        self.alike = {}
        self.found = {word: {} for word in ALONE}


def laid_out(form):
    """The sheet of a good form."""
    sheet = Sheet(form)
    for block, joins, deeds, ending in sheet.rows:
        for once, parts in joins:
            sheet.froms[once] = [source for source, part in parts]
            lay(sheet, once, [part for source, part in parts])
        for at, deed in enumerate(deeds):
            if deed[0] == "put":
                sheet.ops[deed[1]] = deed[2][0] if deed[2][0] in OPS else None
            lay(sheet, key_of_deed(deed, block, at), parts_of_deed(deed))
        lay(sheet, (block, len(deeds)), parts_of_ending(ending))
    return sheet


def key_of_deed(deed, block, at):
    return deed[1] if deed[0] == "put" else (block, at)


def lay(sheet, key, parts):
    """Lets the put, join, tell or ending of the key be there with the parts."""
    sheet.parts[key] = parts
    for once in names_used(parts):
        users = sheet.users.setdefault(once, {})
        users[key] = True
    worth = op_worth(sheet, key)
    if worth is not None:
        group = sheet.alike.setdefault(worth, {})
        group[key] = True
    look_again(sheet, key, parts)


def lift(sheet, key):
    """Lets the put, join, tell or ending of the key be there no more. Tells the parts that it had."""
    worth = op_worth(sheet, key)
    if worth is not None:
        del sheet.alike[worth][key]
        if not sheet.alike[worth]:
            del sheet.alike[worth]
    parts = sheet.parts.pop(key)
    for once in names_used(parts):
        # The same once-name may be used twice.
        sheet.users[once].pop(key, None)
    look_again(sheet, key, parts)
    return parts


def op_worth(sheet, key):
    """The worth of a put, None where it is a part, and of what is no put."""
    op = sheet.ops.get(key)
    return None if op is None else (op, sheet.parts[key][0], sheet.parts[key][1])


def look_again(sheet, key, parts):
    """Notes anew which steps by themselves the key has, and those that are used in the parts."""
    for once in [key] + names_used(parts):
        for word in ALONE:
            holds = ALONE[word]
            if once in sheet.parts and holds(sheet, once):
                sheet.found[word][once] = True
            else:
                sheet.found[word].pop(once, None)


def other_parts(sheet, once):
    """The parts of a join but those that are its own once-name."""
    return [part for part in sheet.parts[once] if part != ("name", once)]


def stand_for(sheet, once, part):
    """Leaves out the put or join of the once-name and lets the part stand wherever it is used."""
    lift(sheet, once)
    for key in list(sheet.users.get(once, {})):
        used = lift(sheet, key)
        lay(sheet, key, [part if each == ("name", once) else each for each in used])


def stands_ahead(sheet, once, other):
    """Whether the put of the one is come to ahead of the other's on each way to that."""
    block, place = sheet.homes[other]
    return is_put_ahead(("name", once), block, place, sheet.homes, sheet.spans)


def pairs_alike(sheet):
    """All (X, Y) that are put by the very same worth, X's put ahead of Y's."""
    found = []
    for group in sheet.alike.values():
        found.extend([(once, other) for once in group for other in group if stands_ahead(sheet, once, other)])
    return found


def first_pair_alike(sheet):
    """The first of pairs_alike in Python's order, None where there is none."""
    firsts = []
    for group in sheet.alike.values():
        # All that one stands ahead of come straight behind it here: so one look at the next is enough.
        ranked = sorted(group, key=lambda once: rank_of(sheet, once))
        heads = [once for once, other in zip(ranked, ranked[1:]) if stands_ahead(sheet, once, other)]
        if heads:
            once = min(heads)
            firsts.append((once, min([other for other in group if stands_ahead(sheet, once, other)])))
    return min(firsts, default=None)


def rank_of(sheet, once):
    block, place = sheet.homes[once]
    return (sheet.spans[block][0], place)


def written(sheet):
    """The form that the sheet stands for now."""
    return (sheet.measure, [written_row(sheet, row) for row in sheet.rows])


def written_row(sheet, row):
    block, joins, deeds, ending = row
    heads = [written_join(sheet, once) for once, parts in joins if once in sheet.parts]
    keys = [key_of_deed(deed, block, at) for at, deed in enumerate(deeds)]
    body = [written_deed(sheet, key) for key in keys if key in sheet.parts]
    if ending[0] == "choose":
        ending = ("choose", sheet.parts[(block, len(deeds))][0], ending[2], ending[3])
    return (block, heads, body, ending)


def written_join(sheet, once):
    return (once, list(zip(sheet.froms[once], sheet.parts[once])))


def written_deed(sheet, key):
    if key not in sheet.ops:
        return ("tell", sheet.parts[key][0])
    return ("put", key, op_worth(sheet, key) or sheet.parts[key][0])
