"""Wanted names: where a name is used on some way onward, ahead of any put of it."""

from oncenames.errors import NoBlock, NoName
from oncenames.programs import names_of, names_used, parts_of_deed, parts_of_ending
from oncenames.ways import BEGIN, blocks_of_ending, came_from, into, leads_of, way_back


def wanted(program):
    """For each block, reached or not, the names wanted at its begin and those wanted at its end."""
    begins = wanted_at_begins(program)
    told = []
    for at, (deeds, ending) in enumerate(program[1]):
        behind = [name for block in blocks_of_ending(ending) for name in begins[block]]
        told.append((sorted(begins[at]), sorted(set(behind))))
    return told


def want_way(program, block, name):
    """A way from the block to a use of the name ahead of any put of it, None where it isn't wanted at its begin."""
    blocks = program[1]
    # The number stays out of the words: a very great one can't be written as a text.
    if not 0 <= block < len(blocks):
        raise NoBlock("that is no block")
    if name not in names_of(program):
        raise NoName("the program has no such name")
    leads = leads_of(program)
    # No way goes on behind a put.
    for source, (deeds, ending) in enumerate(blocks):
        if name in names_put(deeds):
            leads[source] = []
    came = came_from(leads, block, None)
    for last in came:
        if name in names_at_once(blocks[last]):
            return way_back(came, last)
    return None


def wanted_at_begins(program):
    """For each block a dict that has the names wanted at its begin."""
    blocks = program[1]
    sources = into(program)
    puts = [names_put(deeds) for deeds, ending in blocks]
    begins = [{} for block in blocks]
    line = [(at, name) for at, block in enumerate(blocks) for name in names_at_once(block)]
    while line:
        at, name = line.pop()
        if name in begins[at]:
            continue
        begins[at][name] = True
        for source in sources[at]:
            if source != BEGIN and name not in puts[source]:
                line.append((source, name))
    return begins


def names_put(deeds):
    """A dict that has the names that the deeds put."""
    return {deed[1]: True for deed in deeds if deed[0] == "put"}


def names_at_once(block):
    """The names that the block uses ahead of any put of them in it."""
    deeds, ending = block
    put = {}
    used = []
    for deed in deeds:
        used.extend([name for name in names_used(parts_of_deed(deed)) if name not in put])
        if deed[0] == "put":
            put[deed[1]] = True
    used.extend([name for name in names_used(parts_of_ending(ending)) if name not in put])
    return used
