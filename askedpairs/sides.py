"""A web's two sides, or a ring that shows that it has none."""


def things_tied_to(web, thing):
    """Tell the things that have a tie with this one."""
    return [part for tie in web[1] if thing in tie[:2] for part in tie[:2] if part != thing]


def walked_from(web):
    """Tell for each thing the one that a walk over all ties comes to it from, or None, where a part begins."""
    told = {}
    for start in range(web[0]):
        ends = [(start, None)]
        while len(ends) > 0:
            thing, before = ends.pop()
            if thing not in told:
                told[thing] = before
                ends.extend([(part, thing) for part in things_tied_to(web, thing)])
    return told


def way_back(before, thing):
    """Tell the things from this one back to where its part begins."""
    way = []
    while thing is not None:
        way.append(thing)
        thing = before[thing]
    return way


def ring_of(way, other):
    """Tell the ring of two ways back whose beginnings have a tie: both as far as to where they meet."""
    meeting = [thing for thing in way if thing in other][0]
    return tuple(way[:way.index(meeting) + 1] + other[:other.index(meeting)][::-1])


def sides(web):
    """Tell ("sides", a row of sides) or ("ring", a ring of an odd number of things)."""
    before = walked_from(web)
    ways = [way_back(before, thing) for thing in range(web[0])]
    row = tuple([len(way) % 2 for way in ways])
    for one, other, chance, worth in web[1]:
        if row[one] == row[other]:
            return ("ring", ring_of(ways[one], ways[other]))
    return ("sides", row)
