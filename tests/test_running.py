"""[8], [15]: whole runs, and what holds in each of them."""

import unittest

from carfax.nets import check_cars, check_net
from carfax.states import beginning, check_state, place
from carfax.steps import run, step
from tests.drawn import draw_cars, draw_net
from tests.samples import GREATEST, LEAST, TOWN, TOWN_CARS, state_with

# Road 0 leads over a light to road 1.
NET = (((1, 4, 3, 0), (1, 3, 2, -1)), ((("lights", ((2, ()), (2, (0,)))), (1,)),))
CARS = ((0, (0, 1)), (1, (0,)), (0, (0, 1)))

# Greater than any leg.
ARRIVED = 6


class RunTest(unittest.TestCase):
    def test_up_to_the_time_0(self):
        self.assertEqual(run(LEAST, (), 0), [(0, (((),),), ())])
        self.assertEqual(run(TOWN, TOWN_CARS, 0), [beginning(TOWN)])

    def test_without_cars(self):
        self.assertEqual(run(NET, (), 3), [(time, (((),), ((),)), ()) for time in range(4)])
        self.assertEqual(run(GREATEST, (), 2), [(time, (((), (), ()),) * 12, ()) for time in range(3)])

    def test_one_car(self):
        self.assertEqual(run(NET, CARS[:1], 6), [
            state_with(NET, 0, {}),
            state_with(NET, 1, {(0, 0): ((0, 0, 0, 0),)}),
            state_with(NET, 2, {(0, 0): ((1, 0, 1, 0),)}),
            state_with(NET, 3, {(0, 0): ((3, 0, 2, 0),)}),
            state_with(NET, 4, {(1, 0): ((2, 0, 3, 1),)}),
            state_with(NET, 5, {}, ((0, 5),)),
            state_with(NET, 6, {}, ((0, 5),)),
        ])

    def test_three_cars(self):
        # Car 2 enters behind car 0, and car 1 behind both; car 1 leaves the net at red, and car 2 waits for green.
        self.assertEqual(run(NET, CARS, 9), [
            state_with(NET, 0, {}),
            state_with(NET, 1, {(0, 0): ((0, 0, 0, 0),)}),
            state_with(NET, 2, {(0, 0): ((0, 2, 0, 0), (1, 0, 1, 0))}),
            state_with(NET, 3, {(0, 0): ((0, 2, 0, 0), (3, 0, 2, 0))}),
            state_with(NET, 4, {(0, 0): ((0, 1, 0, 0), (1, 2, 1, 0)), (1, 0): ((2, 0, 3, 1),)}),
            state_with(NET, 5, {(0, 0): ((0, 1, 0, 0), (3, 2, 2, 0))}, ((0, 5),)),
            state_with(NET, 6, {(0, 0): ((1, 1, 1, 0), (3, 2, 0, 0))}, ((0, 5),)),
            state_with(NET, 7, {(0, 0): ((2, 1, 1, 0),), (1, 0): ((0, 2, 1, 1),)}, ((0, 5),)),
            state_with(NET, 8, {(1, 0): ((2, 2, 2, 1),)}, ((0, 5), (1, 8))),
            state_with(NET, 9, {}, ((0, 5), (1, 8), (2, 9))),
        ])

    def test_two_lanes_and_a_right_of_way(self):
        # Road 1 has the right of way over road 0; both lead to the two lanes of road 2.
        net = (((1, 3, 2, 0), (2, 3, 2, 0), (2, 3, 1, -1)), ((("order", (1, 0)), (2,)),))
        cars = ((0, (0, 2)), (0, (1, 2)), (0, (1, 2)))
        check_net(net)
        check_cars(net, cars)
        self.assertEqual(run(net, cars, 8), [
            state_with(net, 0, {}),
            state_with(net, 1, {(0, 0): ((0, 0, 0, 0),), (1, 0): ((0, 1, 0, 0),)}),
            state_with(net, 2, {(0, 0): ((1, 0, 1, 0),), (1, 0): ((0, 2, 0, 0), (1, 1, 1, 0))}),
            # Both want 2, and have the room 1; car 2 stays behind car 1, as the time 2 is even.
            state_with(net, 3, {(0, 0): ((2, 0, 1, 0),), (1, 0): ((0, 2, 0, 0),), (2, 0): ((0, 1, 2, 1),)}),
            state_with(net, 4, {(0, 0): ((2, 0, 0, 0),), (1, 0): ((1, 2, 1, 0),), (2, 0): ((1, 1, 1, 1),)}),
            # Car 2 asks, too: the right of way is its own.
            state_with(net, 5, {(0, 0): ((2, 0, 0, 0),), (2, 0): ((0, 2, 2, 1), (2, 1, 1, 1))}),
            state_with(net, 6, {(0, 0): ((2, 0, 0, 0),), (2, 0): ((1, 2, 1, 1),)}, ((1, 6),)),
            state_with(net, 7, {(2, 0): ((0, 0, 1, 1), (2, 2, 1, 1))}, ((1, 6),)),
            state_with(net, 8, {(2, 0): ((1, 0, 1, 1),)}, ((1, 6), (2, 8))),
        ])

    def test_each_state_follows_from_the_one_before(self):
        states = run(TOWN, TOWN_CARS, 60)
        self.assertEqual([state[0] for state in states], list(range(61)))
        self.assertEqual(states[0], beginning(TOWN))
        for before, state in zip(states, states[1:]):
            self.assertEqual(step(TOWN, TOWN_CARS, before), state)

    def test_there_is_one_run(self):
        states = run(TOWN, TOWN_CARS, 200)
        for until in (0, 1, 2, 17, 199, 200):
            self.assertEqual(run(TOWN, TOWN_CARS, until), states[:until + 1])

    def test_a_list_of_tuples(self):
        states = run(TOWN, TOWN_CARS, 20)
        self.assertIs(type(states), list)
        for time, rows, arrived in states:
            self.assertIs(type(time), int)
            for told in (rows, arrived) + rows + arrived + tuple(row for lanes in rows for row in lanes):
                self.assertIs(type(told), tuple)

    def test_steps_from_any_sound_state(self):
        state = state_with(NET, 1000000, {(0, 0): ((2, 1, 1, 0),)}, ((2, 1000000),))
        check_state(NET, CARS, state)
        self.assertEqual(step(NET, CARS, state), (
            1000001, state_with(NET, 0, {(0, 0): ((0, 0, 0, 0),)})[1], ((1, 1000001), (2, 1000000)),
        ))


class AllRunsTest(unittest.TestCase):
    """What holds in each run, over drawn nets."""

    def runs(self, **kinds):
        for seed in range(60):
            net = draw_net(seed, **kinds)
            cars = draw_cars(seed, net)
            yield net, cars, run(net, cars, 70)

    def test_each_state_is_sound(self):
        for net, cars, states in self.runs():
            check_net(net)
            check_cars(net, cars)
            for state in states:
                check_state(net, cars, state)

    def test_cars_stay_on_their_way_and_never_go_back(self):
        for _, cars, states in self.runs():
            for before, state in zip(states, states[1:]):
                for car in range(len(cars)):
                    self.assertLessEqual(how_far(before, car), how_far(state, car))

    def test_no_car_passes_over_a_road(self):
        for _, cars, states in self.runs():
            for before, state in zip(states, states[1:]):
                for car, (_, way) in enumerate(cars):
                    was, now = how_far(before, car)[0], how_far(state, car)[0]
                    if now == ARRIVED:
                        self.assertIn(was, (len(way) - 1, ARRIVED))
                    else:
                        self.assertIn(now, (was, was + 1))

    def test_no_car_overtakes_on_roads_with_one_lane(self):
        for net, _, states in self.runs(lanes=1):
            inside = [[] for _ in net[0]]
            for before, state in zip(states, states[1:]):
                for road in range(len(net[0])):
                    old = [told[1::2] for told in before[1][road][0]]
                    new = [told[1::2] for told in state[1][road][0]]
                    # By car and leg: who enters comes last, and who leaves goes first.
                    for told in inside[road][::-1]:
                        if told not in new:
                            self.assertEqual(inside[road].pop(), told)
                    inside[road] = [told for told in new if told not in old] + inside[road]
                    self.assertEqual(inside[road], new)

    def test_the_cells_moved_are_the_speed(self):
        for net, cars, states in self.runs():
            for before, state in zip(states, states[1:]):
                old = {told[1]: (road, told) for road, told in all_told(before)}
                for road, (cell, car, speed, leg) in all_told(state):
                    if car not in old:
                        self.assertEqual((cell, speed, leg), (0, 0, 0))
                        continue
                    start, (was, _, _, leg_before) = old[car]
                    length = net[0][start][1] if leg > leg_before else 0
                    self.assertEqual(speed, cell - was + length)

    def test_no_car_is_faster_than_the_limit_of_the_road_it_comes_from(self):
        for net, _, states in self.runs():
            for before, state in zip(states, states[1:]):
                old = {told[1]: (road, told[2]) for road, told in all_told(before)}
                for _, (_, car, speed, _) in all_told(state):
                    if car in old:
                        road, slower = old[car]
                        self.assertLessEqual(speed, min(slower + 1, net[0][road][2]))

    def test_cars_enter_at_their_time_or_later(self):
        for _, cars, states in self.runs():
            for state in states:
                for car, (time, _) in enumerate(cars):
                    if place(state, car) is not None:
                        self.assertGreater(state[0], time)


def all_told(state):
    """The pairs of a road and a car on it."""
    return [(road, told) for road, lanes in enumerate(state[1]) for row in lanes for told in row]


def how_far(state, car):
    """A pair that grows as the car goes on: outside, by leg and cell, arrived."""
    for _, (cell, other, _, leg) in all_told(state):
        if other == car:
            return (leg, cell)
    return (ARRIVED, 0) if car in [other for other, _ in state[2]] else (-1, 0)


if __name__ == "__main__":
    unittest.main()
