"""What is decided at a single crossing: which of the cars that ask there are let through."""

from carfax.nets import ends, greens
from carfax.roads import asks


def asked_at(net, cars, crossing, rows):
    """Return the pairs of a road and what a car on it asks, in the order in which they are gone through."""
    word, told = net[1][crossing][0]
    roads = told if word == "order" else ends(net)[crossing]
    return [(road, ask) for road in roads for ask in asks(net, cars, road, rows[road])]


def decided(net, crossing, time, asked, first_cars):
    """Return for each of the pairs of `asked` its cause, or None if the car is let through.

    For a road that begins at the crossing, `first_cars` has the car in cell 0 of each of its lanes, or -1.
    """
    ordered = net[1][crossing][0][0] == "order"
    green = greens(net, crossing, time)
    found = []
    rights = {}
    through = {}
    for road, (_, car, _, onto, lane, _, _) in asked:
        if road not in green:
            found.append(("light", crossing))
            continue
        if first_cars[onto][lane] != -1:
            found.append(("full", first_cars[onto][lane]))
            continue
        # The first car that could enter has the right of way over those of all roads behind its own.
        other, first = rights.setdefault(onto, (road, car))
        if ordered and other != road:
            found.append(("right", first))
        elif (onto, lane) in through:
            found.append(("lane", through[(onto, lane)]))
        else:
            through[(onto, lane)] = car
            found.append(None)
    return found
