"""Ways: which block leads to which, and which blocks each way to a block goes through."""

from oncenames.errors import NoBlock

BEGIN = -1


def into(program):
    """For each block the blocks that lead to it, reached or not, rising, the begin among those of block 0."""
    leads = leads_of(program)
    told = [[] for block in program[1]]
    # The begin comes first among the keys, then the blocks as they count, so each list rises by itself.
    for source in leads:
        for block in leads[source]:
            told[block].append(source)
    return told


def masters(program):
    """For each block the list of its masters, rising, None where it isn't reached."""
    leads = leads_of(program)
    many = len(program[1])
    reached = came_from(leads, None)
    told = [[] if block in reached else None for block in range(many)]
    for a in range(many):
        without = came_from(leads, a)
        for b in range(many):
            if b in reached and b not in without:
                told[b].append(a)
    return told


def around(program, a, b):
    """A way from the begin to b that doesn't go through a, None where there is none."""
    many = len(program[1])
    # The numbers stay out of the words: a very great one can't be written as a text.
    if not 0 <= a < many:
        raise NoBlock("a is no block")
    if not 0 <= b < many:
        raise NoBlock("b is no block")
    leads = leads_of(program)
    if b not in came_from(leads, None):
        raise NoBlock("b isn't reached")
    came = came_from(leads, a)
    return way_back(came, b) if b in came else None


def leads_of(program):
    """For the begin, then for each block in turn, the blocks that it leads to, each once."""
    leads = {BEGIN: [0]}
    for block, (deeds, ending) in enumerate(program[1]):
        leads[block] = blocks_of_ending(ending)
    return leads


def blocks_of_ending(ending):
    """The blocks that an ending names, each once."""
    if ending[0] == "go":
        return [ending[1]]
    if ending[0] == "choose":
        return [ending[2]] if ending[2] == ending[3] else [ending[2], ending[3]]
    return []


def came_from(leads, left_out):
    """For each block that is reached without going through left_out, the one ahead of it on a shortest way."""
    came = {BEGIN: None}
    line = [BEGIN]
    at = 0
    while at < len(line):
        for block in leads[line[at]]:
            if block != left_out and block not in came:
                came[block] = line[at]
                line.append(block)
        at += 1
    return came


def way_back(came, block):
    """The way from the begin to the block, by the blocks that each was come to from."""
    way = []
    while block is not None:
        way.append(block)
        block = came[block]
    way.reverse()
    return way
