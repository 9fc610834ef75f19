"""Meets: where ways from two puts of a name meet first, so that a join must stand, and why none must."""

from oncenames.errors import NoBlock, NoName
from oncenames.programs import names_of
from oncenames.wanted import names_put, wanted_at_begins
from oncenames.ways import BEGIN, came_from, nearest_masters, reached_leads, sources_of, way_back

START = "start"
ENTRY = 0
EXIT = 1


def joins_of(program):
    """All (block, name) where a join must stand."""
    leads = reached_leads(program)
    places = put_places(program, leads)
    borders = borders_of(leads)
    begins = wanted_at_begins(program)
    told = []
    for name in places:
        told.extend([(block, name) for block in meeting_blocks(places[name], borders) if name in begins[block]])
    return sorted(told)


def meet(program, block, name):
    """Two ways from put places of the name that meet first at the block, or what all such ways come through."""
    leads = reached_leads(program)
    if block == BEGIN or block not in leads:
        raise NoBlock("that is no block that is reached")
    places = put_places(program, leads)
    if name not in places:
        raise NoName("the program has no such name")
    onward = steps_onward(leads, places[name], block)
    goal = (block, ENTRY)
    first = way_back(came_from(onward, START, None), goal)
    turn_round(onward, first)
    came = came_from(onward, START, None)
    if goal not in came:
        return ("through", last_come_to(first, came))
    way, other = untangled(first, way_back(came, goal))
    return ("meet", way, other)


def put_places(program, leads):
    """For each name of the program the begin and the reached blocks that put it."""
    places = {name: [BEGIN] for name in names_of(program)}
    for block in leads:
        if block != BEGIN:
            for name in names_put(program[1][block][0]):
                places[name].append(block)
    return places


def borders_of(leads):
    """For the begin and each reached block the borders of what it masters: blocks that are led to from within, and that
    it doesn't master or that it is itself."""
    nearest = nearest_masters(leads)
    sources = sources_of(leads)
    borders = {block: {} for block in leads}
    for block in nearest:
        for source in sources[block]:
            above = source
            while above != nearest[block] and block not in borders[above]:
                borders[above][block] = True
                above = nearest[above]
    return borders


def meeting_blocks(places, borders):
    """A dict that has the blocks where ways from two of the places meet first."""
    # They meet first at the borders of the places, and at the borders of blocks so found, again and again; since the
    # begin is one of the places, nowhere else, and always two ways from the places themselves are there.
    found = {}
    line = list(places)
    while line:
        place = line.pop()
        for block in borders[place]:
            if block not in found:
                found[block] = True
                line.append(block)
    return found


def steps_onward(leads, places, block):
    """The steps of ways from the start, over the places, to the block's entry."""
    # Each block but this one is gone through by the one step from its entry to its exit: so ways that share no step
    # share no block. Through this block itself no way goes; one may begin at its exit.
    onward = {(block, ENTRY): []}
    for source in leads:
        if source != block:
            onward[(source, ENTRY)] = [(source, EXIT)]
        onward[(source, EXIT)] = [(other, ENTRY) for other in leads[source]]
    onward[START] = [(place, EXIT if place == block else ENTRY) for place in places]
    return onward


def turn_round(onward, way):
    """Turns the steps of the way round, so that a second way can take them back."""
    for here, there in zip(way, way[1:]):
        onward[here].remove(there)
        onward[there].append(here)


def last_come_to(way, came):
    """The block at the one step of the way by which alone the goal is come to."""
    # With the way's steps turned round, all of it ahead of that step is come to, and nothing behind.
    last = [node for node in way if node in came][-1]
    return way[1][0] if last == START else last[0]


def untangled(first, second):
    """The two ways of blocks that are left where steps that the second way takes back fall away."""
    steps = {(here, there): True for here, there in zip(first, first[1:])}
    for here, there in zip(second, second[1:]):
        if (there, here) in steps:
            del steps[(there, here)]
        else:
            steps[(here, there)] = True
    onward = {here: there for here, there in steps if here != START}
    return [blocks_gone(there, onward) for here, there in steps if here == START]


def blocks_gone(node, onward):
    """The blocks of the way from a node on."""
    way = []
    while node in onward:
        if node[1] == EXIT:
            way.append(node[0])
        node = onward[node]
    way.append(node[0])
    return way
