"""What is decided at a single crossing: which of the cars that ask there are let through."""

from carfax.nets import ends, greens


def asked_at(net, crossing, asked_on):
    """Return the pairs of a road and what a car on it asks, in the order in which they are gone through.

    For a road that ends at the crossing, `asked_on` has what its cars ask.
    """
    word, told = net[1][crossing][0]
    roads = told if word == "order" else ends(net)[crossing]
    return [(road, ask) for road in roads for ask in asked_on[road]]


def decided(net, crossing, time, asked, first_cars):
    """Return for each of the pairs of `asked` its cause, or None if the car is let through.

    For a road that begins at the crossing, `first_cars` has the car in cell 0 of each of its lanes, or -1.
    """
    ordered = net[1][crossing][0][0] == "order"
    green = greens(net, crossing, time)
    found = []
    rights = {}
    through = {}
    for road, (_, car, _, onto, lane, _, _) in asked:
        if road not in green:
            found.append(("light", crossing))
            continue
        if first_cars[onto][lane] != -1:
            found.append(("full", first_cars[onto][lane]))
            continue
        # The first car that could enter has the right of way over those of all roads behind its own.
        other, first = rights.setdefault(onto, (road, car))
        if ordered and other != road:
            found.append(("right", first))
        elif (onto, lane) in through:
            found.append(("lane", through[(onto, lane)]))
        else:
            through[(onto, lane)] = car
            found.append(None)
    return found


def crossed(net, crossing, time, asked_on, first_cars):
    """Return the lanes whose front cars are let through, by road, and the cars that come, by the road they enter.

    The cars that come are tuples (lane, car, leg, want, room), with the lane that they enter.
    """
    asked = asked_at(net, crossing, asked_on)
    lets = {road: [] for road in ends(net)[crossing]}
    comes = {road: [] for road in net[1][crossing][1]}
    for (road, ask), why in zip(asked, decided(net, crossing, time, asked, first_cars)):
        if why is None:
            lane, car, leg, onto, next_lane, want, ahead = ask
            lets[road].append(lane)
            comes[onto].append((next_lane, car, leg, want, ahead))
    return (lets, comes)
