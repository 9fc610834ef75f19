"""Ways: which block leads to which, and which blocks each way to a block goes through."""

from oncenames.errors import NoBlock

BEGIN = -1


def into(program):
    """For each block the blocks that lead to it, reached or not, rising, the begin among those of block 0."""
    sources = sources_of(leads_of(program))
    return [sources[block] for block in range(len(program[1]))]


def masters(program):
    """For each block the list of its masters, rising, None where it isn't reached."""
    leads = leads_of(program)
    many = len(program[1])
    reached = came_from(leads, BEGIN, None)
    told = [[] if block in reached else None for block in range(many)]
    for a in range(many):
        without = came_from(leads, BEGIN, a)
        for b in range(many):
            if b in reached and b not in without:
                told[b].append(a)
    return told


def around(program, a, b):
    """A way from the begin to b that doesn't go through a, None where there is none."""
    many = len(program[1])
    # The numbers stay out of the words: a very great one can't be written as a text.
    if not 0 <= a < many:
        raise NoBlock("a is no block")
    if not 0 <= b < many:
        raise NoBlock("b is no block")
    leads = leads_of(program)
    if b not in came_from(leads, BEGIN, None):
        raise NoBlock("b isn't reached")
    came = came_from(leads, BEGIN, a)
    return way_back(came, b) if b in came else None


def leads_of(program):
    """For the begin, then for each block in turn, the blocks that it leads to, each once."""
    leads = {BEGIN: [0]}
    for block, (deeds, ending) in enumerate(program[1]):
        leads[block] = blocks_of_ending(ending)
    return leads


def blocks_of_ending(ending):
    """The blocks that an ending names, each once."""
    if ending[0] == "go":
        return [ending[1]]
    if ending[0] == "choose":
        return [ending[2]] if ending[2] == ending[3] else [ending[2], ending[3]]
    return []


def reached_leads(program):
    """Like leads_of, but of the begin and the reached blocks alone."""
    leads = leads_of(program)
    reached = came_from(leads, BEGIN, None)
    return {source: leads[source] for source in leads if source in reached}


def sources_of(leads):
    """For each of the leads those that lead to it."""
    sources = {block: [] for block in leads}
    # The begin comes first among the keys, then the blocks as they count, so each list rises by itself.
    for source in leads:
        for block in leads[source]:
            sources[block].append(source)
    return sources


def came_from(leads, start, left_out):
    """For each that is come to from the start without going through left_out, the one ahead of it on a shortest way."""
    came = {start: None}
    line = [start]
    at = 0
    while at < len(line):
        source = line[at]
        for block in leads[source]:
            if block != left_out and block not in came:
                came[block] = source
                line.append(block)
        at += 1
    return came


def way_back(came, block):
    """The way from the start to the block, by the blocks that each was come to from."""
    way = []
    while block is not None:
        way.append(block)
        block = came[block]
    way.reverse()
    return way


def order_of(leads):
    """The begin and the reached blocks, each behind one that leads to it, and ahead of all that it masters."""
    seen = {BEGIN: True}
    left = []
    under_way = [(BEGIN, 0)]
    while under_way:
        block, at = under_way.pop()
        if at == len(leads[block]):
            left.append(block)
            continue
        under_way.append((block, at + 1))
        onward = leads[block][at]
        if onward not in seen:
            seen[onward] = True
            under_way.append((onward, 0))
    # Blocks left last come first: so ways that don't turn back go on rising, and nearest_masters is soon at its end.
    left.reverse()
    return left


def nearest_masters(leads):
    """For each reached block, in the order of order_of, the nearest of its other masters (the begin is one)."""
    order = order_of(leads)
    places = {block: at for at, block in enumerate(order)}
    sources = sources_of(leads)
    nearest = {BEGIN: None}
    changed = True
    while changed:
        changed = False
        for block in order[1:]:
            found = shared_master([source for source in sources[block] if source in nearest], nearest, places)
            if block not in nearest or nearest[block] != found:
                nearest[block] = found
                changed = True
    del nearest[BEGIN]
    return nearest


def shared_master(blocks, nearest, places):
    """The nearest one that masters all of the blocks, by what is known of the nearest masters."""
    shared = blocks[0]
    for block in blocks[1:]:
        other = block
        while shared != other:
            # A master's place is ahead of what it masters, so the one behind goes up.
            if places[shared] > places[other]:
                shared = nearest[shared]
            else:
                other = nearest[other]
    return shared


def spans_of(nearest):
    """For the begin and each reached block a span (first, end): one masters another, whose first lies in its span."""
    many = {BEGIN: 1}
    for block in nearest:
        many[block] = 1
    for block in reversed(list(nearest)):
        many[nearest[block]] += many[block]
    spans = {BEGIN: (0, many[BEGIN])}
    free = {BEGIN: 1}
    for block in nearest:
        above = nearest[block]
        first = free[above]
        free[above] += many[block]
        free[block] = first + 1
        spans[block] = (first, first + many[block])
    return spans


def is_master(spans, a, b):
    first, end = spans[a]
    return first <= spans[b][0] < end
