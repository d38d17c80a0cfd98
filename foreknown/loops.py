"""Loops: called is here a dict, by each thing the list of those that it calls."""


# The things in an order in which each stands behind all that it can come to,
# but for those that can come back to it.
def order_left(called):
    entered = {}
    order = []
    # A step is a thing and whether it is left, or else entered.
    for start in called:
        waiting = [(start, False)]
        while len(waiting) > 0:
            step = waiting.pop()
            thing = step[0]
            if step[1]:
                order.append(thing)
            elif thing not in entered:
                entered[thing] = True
                waiting.append((thing, True))
                waiting.extend([(there, False) for there in called[thing]])
    return order


def turned_round(called):
    callers = {}
    for thing in called:
        callers[thing] = []
    for thing in called:
        for there in called[thing]:
            callers[there].append(thing)
    return callers


# The thing and all that can be come to from it, on shortest ways, past none of
# those that stand in before; each that is found is put there, too, with the
# thing ahead of it on the way.
def found_from(thing, called, before):
    found = [thing]
    place = 0
    while place < len(found):
        here = found[place]
        for there in called[here]:
            if there not in before:
                before[there] = here
                found.append(there)
        place += 1
    return found


# Each thing that can come back to itself, with True. Things that can come to
# one another make a group: taken from the order's end on, all that can come to
# a thing and isn't shut yet can be come to from it as well. Each call is looked
# at a fixed number of times, however many things there are.
def in_loops(called):
    callers = turned_round(called)
    shut = {}
    found = {}
    for thing in reversed(order_left(called)):
        if thing not in shut:
            shut[thing] = thing
            group = found_from(thing, callers, shut)
            if len(group) > 1 or thing in called[thing]:
                for one in group:
                    found[one] = True
    return found


# The things along a shortest loop from one that is in a loop back to it.
def loop_from(thing, called):
    before = {}
    found_from(thing, called, before)
    loop = [thing, before[thing]]
    while loop[-1] != thing:
        loop.append(before[loop[-1]])
    return tuple(reversed(loop))
