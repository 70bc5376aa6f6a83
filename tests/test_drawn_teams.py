"""[21] to [29] over drawn nets, move by move, against the document once more in tests/reference_team.py."""

import unittest

from carfax.cuttings import check_cutting
from carfax.nets import check_cars, check_net
from carfax.states import beginning, check_state
from carfax.teams import Team
from tests.drawn import draw_cars, draw_cutting, draw_net, draw_schedule, draw_state
from tests.reference_team import SlowTeam


def drawn():
    """What teams are made of, with a number."""
    for seed in range(100):
        kinds = ({}, {"most_roads": 3, "cells": 4}, {"most_roads": 5, "cells": 8}, {"most_roads": 6, "cells": 3})
        net = draw_net(seed, **kinds[seed % 4])
        cars = draw_cars(seed, net)
        state = draw_state(seed, net, cars) if seed % 3 else beginning(net)
        yield seed, (net, cars, draw_cutting(seed, net), (0, 1, 2, 5, 50)[seed % 5], state, state[0] + 1 + seed % 6)


class DrawnTeamsTest(unittest.TestCase):
    def test_what_is_drawn_is_sound(self):
        for _, (net, cars, cutting, _, state, _) in drawn():
            check_net(net)
            check_cars(net, cars)
            check_cutting(net, cutting)
            check_state(net, cars, state)

    def test_move_by_move(self):
        made, back, ended = 0, 0, 0
        for seed, given in drawn():
            team, slow = Team(*given), SlowTeam(*given)
            for number in draw_schedule(seed, 180):
                moves = team.moves()
                self.assertEqual(moves, slow.moves())
                if not moves:
                    ended += 1
                    break
                # Some always take the first move, some the last one.
                index = (0, len(moves) - 1, number % len(moves), number % len(moves))[seed % 4]
                team.move(index)
                slow.move(index)
                made += 1
                self.assertEqual(team.log(), slow.letters)
                self.assertEqual(team.pending(), slow.pending())
                self.assertEqual(team.taken_back(), slow.back)
                self.assertEqual(team.settled(), slow.settled())
                self.assertEqual(team.state(), slow.state())
                for worker, told in enumerate(slow.workers):
                    self.assertEqual(team.where(worker), told.at)
            back += slow.back
        self.assertGreater(made, 4000)
        self.assertGreater(back, 150)
        self.assertGreater(ended, 30)


if __name__ == "__main__":
    unittest.main()
