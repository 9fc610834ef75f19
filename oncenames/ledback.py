"""Led back: a program without joins that tells what a form tells."""

from oncenames.looker import given_in_rows, homes_of, leads_of_rows, refuse_unless_good
from oncenames.programs import part_by, worth_by
from oncenames.ways import BEGIN

LETTERS = "abcdefghijklmnopqrstuvwxyz"


def led_back(form):
    """A program that tells what the form tells, in twice as many blocks."""
    refuse_unless_good(form)
    measure, rows = form
    leads = leads_of_rows(rows)
    names, spares = names_for(rows)
    places = places_for(leads)
    found = {row[0]: row for row in rows}
    blocks = []
    for source in leads:
        if source != BEGIN:
            blocks.append(led_block(found[source], names, places))
        for block in leads[source]:
            blocks.append((puts_between(found[block][1], source, names, spares), ("go", places[block])))
    return (measure, blocks)


def names_for(rows):
    """A dict of once-names to names, and a list of names that are left to keep worths aside."""
    given = {once: once[0] for once in given_in_rows(rows)}
    homes = homes_of(rows)
    most = max([len(joins) for block, joins, deeds, ending in rows])
    fresh = fresh_names(len(homes) + most, {given[once]: True for once in given})
    # What is given for a fresh name changes nothing: in a good form each is put ahead of its uses.
    names = dict(zip(homes, fresh))
    names.update(given)
    return names, fresh[len(homes):]


def fresh_names(many, taken):
    fresh = []
    count = 0
    while len(fresh) < many:
        count += 1
        name = letters_of(count)
        if name not in taken:
            fresh.append(name)
    return fresh


def letters_of(count):
    """The name that comes at that count, from 1 on, among all by length and then by letters."""
    name = ""
    while count > 0:
        name = LETTERS[(count - 1) % len(LETTERS)] + name
        count = (count - 1) // len(LETTERS)
    return name


def places_for(leads):
    """Where in the program each block stands, and between two blocks what puts the joins, found by (from, block)."""
    places = {}
    # The begin comes first among the leads: so what puts the joins of block 0 is where the program begins. A block
    # between stands on each step, with joins or without: so each block of the form takes just two of the program's.
    for source in leads:
        if source != BEGIN:
            places[source] = len(places)
        for block in leads[source]:
            places[(source, block)] = len(places)
    return places


def led_block(row, names, places):
    block, joins, deeds, ending = row
    return ([led_deed(deed, names) for deed in deeds], led_ending(ending, block, names, places))


def led_ending(ending, block, names, places):
    if ending[0] == "go":
        return ("go", places[(block, ending[1])])
    if ending[0] == "choose":
        return ("choose", part_by(ending[1], names), places[(block, ending[2])], places[(block, ending[3])])
    return ending


def led_deed(deed, names):
    if deed[0] == "put":
        return ("put", names[deed[1]], worth_by(deed[2], names))
    return ("tell", part_by(deed[1], names))


def puts_between(joins, source, names, spares):
    """The puts that do the joins where their block is entered from the source."""
    came = [(once, part) for once, parts in joins for begin, part in parts if begin == source]
    joined = {once: True for once, parts in joins}
    # The joins are done all at once, by the worths ahead of them: so what another put would change is kept aside first.
    lost = [part[1] for once, part in came if part[0] == "name" and part[1] in joined]
    aside = dict(zip(lost, spares))
    ahead = dict(names)
    ahead.update(aside)
    puts = [("put", aside[once], ("name", names[once])) for once in aside]
    return puts + [("put", names[once], part_by(part, ahead)) for once, part in came]
