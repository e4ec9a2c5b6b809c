"""Parts of a mould, each with a way of its own: which hold which, and in what order they come away."""

from pourhall.drawing import hindrance


def holders_of(parts, number):
    """The numbers of the parts, rising, that hold the part with a number."""
    body = parts[number][0]
    way = parts[number][1]
    found = []
    for other, part in enumerate(parts):
        if other != number and hindrance(body, part[0], way) is not None:
            found.append(other)
    return found


def held_by(parts):
    """Of each part the numbers of those that hold it, rising."""
    return [holders_of(parts, number) for number in range(len(parts))]


def those_among(numbers, there):
    """Those of the numbers, in their order, that are there."""
    return [number for number in numbers if number in there]


def ring_among(holders, there):
    """A ring of parts, out of those still there, each of which is held by another one still there."""
    walk = [there[0]]
    while True:
        holder = those_among(holders[walk[-1]], there)[0]
        if holder in walk:
            # What was walked ahead of the holder leads into the ring, but is none of it.
            return walk[walk.index(holder):]
        walk.append(holder)


def order_of(parts):
    """The order in which parts come away, or a ring of parts each held by the next one."""
    holders = held_by(parts)
    there = list(range(len(parts)))
    gone = []
    while there:
        free = [number for number in there if not those_among(holders[number], there)]
        if not free:
            return ("ring", ring_among(holders, there))
        gone.append(free[0])
        there.remove(free[0])
    return ("order", gone)


def walked(parts, order):
    """None where each part comes away free in a told order, else the first that is held and its least holder."""
    holders = held_by(parts)
    for place, number in enumerate(order):
        holding = those_among(holders[number], order[place + 1:])
        if holding:
            return (number, holding[0])
    return None
