"""All points up to 16 over drawn nets, against the document once more in tests/reference.py."""

import unittest

from carfax.causes import cause, rings
from carfax.nets import check_cars, check_net
from carfax.reports import passed
from carfax.states import check_state
from carfax.steps import asking, changed, let_through, run, step
from tests import reference
from tests.drawn import draw_cars, draw_net, draw_state


def drawn():
    """Nets, large ones and small ones, with cars and a number."""
    for seed in range(120):
        kinds = ({}, {"most_roads": 3, "cells": 4}, {"most_roads": 5, "cells": 8})[seed % 3]
        net = draw_net(seed, **kinds)
        yield seed, net, draw_cars(seed, net)


def drawn_states():
    for seed, net, cars in drawn():
        for again in range(3):
            yield net, cars, draw_state((seed, again), net, cars)


class DrawnTest(unittest.TestCase):
    def test_what_is_drawn_is_sound(self):
        for net, cars, state in drawn_states():
            check_net(net)
            check_cars(net, cars)
            check_state(net, cars, state)

    def test_changed(self):
        for net, cars, state in drawn_states():
            self.assertEqual(changed(net, cars, state), reference.changed(net, state))

    def test_asking_and_let_through(self):
        kinds = []
        for net, cars, state in drawn_states():
            # These rows are as good as any: they need not be behind a change of lanes.
            for rows in (reference.changed(net, state), state[1]):
                self.assertEqual(asking(net, cars, state[0], rows), reference.asking(net, cars, rows))
                found = let_through(net, cars, state[0], rows)
                self.assertEqual(found, reference.let_through(net, cars, state[0], rows))
                kinds += [why[0] for _, why in found[1]] + ["through"] * len(found[0])
        for kind in ("light", "full", "right", "lane", "through"):
            self.assertGreater(kinds.count(kind), 10, kind)

    def test_step(self):
        for net, cars, state in drawn_states():
            following = step(net, cars, state)
            self.assertEqual(following, reference.step(net, cars, state))
            check_state(net, cars, following)

    def test_cause_and_rings(self):
        kinds = []
        for net, cars, state in drawn_states():
            for car in range(len(cars)):
                why = cause(net, cars, state, car)
                self.assertEqual(why, reference.cause(net, cars, state, car))
                kinds += [why and why[0]]
            found = rings(net, cars, state)
            self.assertEqual(found, reference.rings(net, cars, state))
            kinds += ["ring"] * len(found)
        for kind in (None, "car", "light", "full", "right", "lane", "before", "enter", "ring"):
            self.assertGreater(kinds.count(kind), 5, kind)

    def test_run_and_passed(self):
        for _, net, cars in drawn():
            states = run(net, cars, 40)
            self.assertEqual(states, reference.run(net, cars, 40))
            for road, (_, cells, _, _) in enumerate(net[0]):
                for cell in (0, cells // 2, cells - 1):
                    self.assertEqual(
                        passed(net, cars, states, road, cell), reference.passed(cars, states, road, cell),
                    )


if __name__ == "__main__":
    unittest.main()
