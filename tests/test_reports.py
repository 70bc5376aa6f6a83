"""[16]: which cars pass a cell, and how many there are where."""

import unittest

from carfax.nets import check_cars, check_net
from carfax.reports import counts, passed
from carfax.states import beginning, check_state
from carfax.steps import run, step
from tests.drawn import draw_cars, draw_net, draw_state
from tests.samples import LEAST, TOWN, TOWN_CARS, TOWN_STATE, state_with

# Roads 0 and 1 lead to each other.
NET = (((2, 9, 4, 0), (1, 4, 5, 1)), ((("order", (0,)), (1,)), (("order", (1,)), (0,))))
CARS = ((0, (0,)), (0, (1,)), (0, (0, 1, 0)), (0, (1, 0, 1)), (0, (0, 1)))


class PassedTest(unittest.TestCase):
    def passes(self, states, road, cell, found, cars=CARS, net=NET):
        for state in states:
            check_state(net, cars, state)
        self.assertEqual(passed(net, cars, states, road, cell), found)

    def test_the_samples_are_nets_and_cars(self):
        check_net(NET)
        check_cars(NET, CARS)

    def test_no_states_and_one(self):
        self.passes([], 0, 0, [])
        self.passes([beginning(NET)], 0, 0, [])
        self.passes([state_with(NET, 5, {(0, 0): ((3, 0, 1, 0),)}, ((2, 5),))], 0, 0, [])

    def test_cell_by_cell(self):
        states = run(NET, CARS[:1], 8)
        # In the cells 0, 1, 3, 6, and then beyond the end.
        for cell, time in ((0, 1), (1, 2), (2, 3), (3, 3), (4, 4), (5, 4), (6, 4), (7, 5), (8, 5)):
            self.passes(states, 0, cell, [(time, 0)], CARS[:1])
        self.assertEqual(states[4], state_with(NET, 4, {(0, 0): ((6, 0, 3, 0),)}))
        self.assertEqual(states[5], state_with(NET, 5, {}, ((0, 5),)))

    def test_it_is_there_and_was_not_before(self):
        states = [
            state_with(NET, 3, {(0, 0): ((4, 0, 0, 0),), (1, 0): ((0, 3, 0, 0),)}),
            state_with(NET, 4, {(0, 0): ((4, 0, 0, 0),), (1, 0): ((1, 3, 1, 0),)}),
            state_with(NET, 5, {(0, 0): ((5, 0, 1, 0),), (1, 0): ((3, 3, 2, 0),)}),
        ]
        for cell, found in ((3, []), (4, []), (5, [(5, 0)]), (6, [])):
            self.passes(states, 0, cell, found)
        for cell, found in ((0, []), (1, [(4, 3)]), (2, [(5, 3)]), (3, [(5, 3)])):
            self.passes(states, 1, cell, found)

    def test_in_whatever_lane(self):
        states = [
            state_with(NET, 7, {(0, 0): ((3, 0, 0, 0),), (0, 1): ((2, 4, 1, 0),)}),
            state_with(NET, 8, {(0, 1): ((4, 4, 2, 0), (5, 0, 2, 0))}),
        ]
        self.passes(states, 0, 2, [])
        self.passes(states, 0, 3, [(8, 4)])
        self.passes(states, 0, 4, [(8, 0), (8, 4)])
        self.passes(states, 0, 5, [(8, 0)])

    def test_cells_of_another_road_are_nothing_to_it(self):
        states = [
            state_with(NET, 3, {(1, 0): ((0, 1, 0, 0),)}),
            state_with(NET, 4, {(1, 0): ((1, 1, 1, 0),)}),
        ]
        self.passes(states, 0, 1, [])
        self.passes(states, 1, 1, [(4, 1)])

    def test_cells_that_are_jumped_over(self):
        states = [
            state_with(NET, 3, {(0, 0): ((2, 0, 3, 0),)}),
            state_with(NET, 4, {(0, 0): ((6, 0, 4, 0),)}),
        ]
        for cell, found in ((2, []), (3, [(4, 0)]), (4, [(4, 0)]), (5, [(4, 0)]), (6, [(4, 0)]), (7, [])):
            self.passes(states, 0, cell, found)

    def test_entering_is_passing_the_first_cell(self):
        states = [beginning(NET), state_with(NET, 1, {(0, 0): ((0, 0, 0, 0),)})]
        self.passes(states, 0, 0, [(1, 0)])
        self.passes(states, 0, 1, [])

    def test_over_the_end_of_a_road(self):
        states = [
            state_with(NET, 3, {(0, 0): ((7, 4, 3, 0),)}),
            state_with(NET, 4, {(1, 0): ((2, 4, 4, 1),)}),
        ]
        for cell, found in ((6, []), (7, []), (8, [(4, 4)])):
            self.passes(states, 0, cell, found)
        for cell, found in ((0, [(4, 4)]), (1, [(4, 4)]), (2, [(4, 4)]), (3, [])):
            self.passes(states, 1, cell, found)

    def test_out_of_the_net(self):
        states = [
            state_with(NET, 3, {(0, 0): ((6, 0, 3, 0),)}),
            state_with(NET, 4, {}, ((0, 4),)),
            state_with(NET, 5, {}, ((0, 4),)),
        ]
        for cell, found in ((6, []), (7, [(4, 0)]), (8, [(4, 0)])):
            self.passes(states, 0, cell, found)
        # The way of car 0 has no road 1.
        for cell in range(4):
            self.passes(states, 1, cell, [])

    def test_a_later_leg(self):
        # Cars 3 and 4 go on on later legs, behind roads that are in their ways.
        states = [
            state_with(NET, 3, {(0, 0): ((1, 3, 0, 1),), (1, 0): ((1, 4, 0, 1),)}),
            state_with(NET, 4, {(0, 0): ((2, 3, 1, 1),), (1, 0): ((2, 4, 1, 1),)}),
        ]
        for cell in range(9):
            self.passes(states, 0, cell, [(4, 3)] if cell == 2 else [])
        for cell in range(4):
            self.passes(states, 1, cell, [(4, 4)] if cell == 2 else [])

    def test_a_road_that_stands_twice_in_a_way(self):
        # Car 2 is on road 0 for the second time, and car 3 comes to road 1 for the second time.
        states = [
            state_with(NET, 3, {(0, 0): ((1, 2, 0, 2), (5, 3, 3, 1))}),
            state_with(NET, 4, {(0, 0): ((2, 2, 1, 2),), (1, 0): ((0, 3, 4, 2),)}),
            state_with(NET, 5, {(0, 0): ((4, 2, 2, 2),), (1, 0): ((3, 3, 3, 2),)}),
        ]
        for cell in range(9):
            self.passes(states, 0, cell, [(4, 3)] if cell >= 6 else [])
        for cell in range(4):
            self.passes(states, 1, cell, [])

    def test_the_first_leg_with_the_road_counts(self):
        cars = ((0, (0, 1, 0)),)
        states = run(NET, cars, 20)
        self.assertEqual(states[-1][2], ((0, 8),))
        times = [passed(NET, cars, states, 0, cell) for cell in range(9)]
        self.assertEqual(times[0], [(1, 0)])
        self.assertEqual(times[8], [(5, 0)])
        self.assertEqual([len(found) for found in times], [1] * 9)

    def test_over_short_roads(self):
        net = (((1, 2, 5, 0), (1, 2, 5, -1)), ((("order", (0,)), (1,)),))
        cars = ((0, (0, 1)),)
        states = run(net, cars, 9)
        self.assertEqual(passed(net, cars, states, 0, 1), [(2, 0)])
        self.assertEqual(passed(net, cars, states, 1, 0), [(3, 0)])
        self.assertEqual(passed(net, cars, states, 1, 1), [(3, 0)])

    def test_states_that_do_not_begin_at_the_time_0(self):
        states = run(TOWN, TOWN_CARS, 120)
        for road in range(6):
            whole = passed(TOWN, TOWN_CARS, states, road, 1)
            for start, until in ((0, 120), (1, 120), (5, 30), (29, 31), (50, 90), (119, 120)):
                self.assertEqual(
                    passed(TOWN, TOWN_CARS, states[start:until + 1], road, 1),
                    [pair for pair in whole if start < pair[0] <= until],
                )

    def test_from_any_sound_state(self):
        states = [TOWN_STATE]
        for _ in range(30):
            states.append(step(TOWN, TOWN_CARS, states[-1]))
        # Car 5 is behind the cell 3 of road 1, and comes to road 3; car 7 has arrived.
        self.assertEqual(passed(TOWN, TOWN_CARS, states, 1, 3), [])
        self.assertEqual([car for _, car in passed(TOWN, TOWN_CARS, states, 3, 0)], [3, 5, 0])

    def test_ascending_by_time_and_car(self):
        cars = ((0, (1, 0)), (0, (0, 1)), (0, (0,)), (0, (0,)))
        states = [
            state_with(NET, 3, {
                (0, 0): ((3, 3, 3, 0), (8, 1, 0, 0)), (0, 1): ((3, 2, 3, 0),), (1, 0): ((2, 0, 1, 0),),
            }),
            state_with(NET, 4, {
                (0, 0): ((0, 0, 2, 1), (7, 3, 4, 0)), (0, 1): ((7, 2, 4, 0),), (1, 0): ((0, 1, 1, 1),),
            }),
            state_with(NET, 5, {(0, 0): ((3, 0, 3, 1),), (1, 0): ((2, 1, 2, 1),)}, ((2, 5), (3, 5))),
        ]
        self.assertEqual(step(NET, cars, states[0]), states[1])
        self.assertEqual(step(NET, cars, states[1]), states[2])
        self.passes(states, 0, 7, [(4, 2), (4, 3)], cars)
        self.passes(states, 0, 8, [(5, 2), (5, 3)], cars)
        self.passes(states, 0, 1, [(5, 0)], cars)
        self.passes(states, 1, 0, [(4, 1)], cars)
        self.passes(states, 1, 3, [(4, 0)], cars)

    def test_no_cars_on_the_road(self):
        self.passes(run(NET, CARS[1:2], 20), 0, 3, [], CARS[1:2])
        self.passes(run(NET, (), 20), 0, 3, [], ())

    def test_each_cell_of_a_way_is_passed_once_and_in_order(self):
        for seed in range(20):
            net = draw_net(seed)
            cars = draw_cars(seed, net)
            states = run(net, cars, 80)
            arrived = dict(states[-1][2])
            for road in range(len(net[0])):
                lists = [passed(net, cars, states, road, cell) for cell in range(net[0][road][1])]
                for car, (_, way) in enumerate(cars):
                    times = [time for found in lists for time, other in found if other == car]
                    self.assertEqual(times, sorted(times))
                    if road not in way:
                        self.assertEqual(times, [])
                    elif car in arrived:
                        self.assertEqual(len(times), len(lists))
                    else:
                        self.assertLessEqual(len(times), len(lists))
                for found in lists:
                    self.assertEqual(found, sorted(found))

    def test_a_list_of_pairs(self):
        found = passed(NET, CARS, run(NET, CARS, 9), 0, 0)
        self.assertIs(type(found), list)
        self.assertGreater(len(found), 1)
        for pair in found:
            self.assertIs(type(pair), tuple)


class CountsTest(unittest.TestCase):
    def test_the_three_numbers(self):
        self.assertEqual(counts(TOWN_CARS, TOWN_STATE), (2, 5, 1))
        self.assertIs(type(counts(TOWN_CARS, TOWN_STATE)), tuple)

    def test_nobody(self):
        self.assertEqual(counts((), beginning(LEAST)), (0, 0, 0))
        self.assertEqual(counts((), beginning(TOWN)), (0, 0, 0))

    def test_all_in_one_place(self):
        self.assertEqual(counts(CARS, beginning(NET)), (5, 0, 0))
        self.assertEqual(counts(CARS, state_with(NET, 9, {}, tuple((car, 9) for car in range(5)))), (0, 0, 5))
        state = state_with(NET, 9, {(0, 0): ((0, 0, 0, 0), (1, 2, 0, 2)), (0, 1): ((0, 4, 0, 0),), (1, 0): (
            (0, 1, 0, 0), (3, 3, 0, 2))})
        self.assertEqual(counts(CARS, state), (0, 5, 0))

    def test_each_place(self):
        state = state_with(NET, 9, {(0, 1): ((0, 4, 0, 0),)}, ((0, 3), (3, 2)))
        self.assertEqual(counts(CARS, state), (2, 1, 2))
        state = state_with(NET, 9, {(0, 0): ((0, 4, 0, 0),), (1, 0): ((1, 3, 0, 0), (2, 1, 0, 0))}, ((0, 3),))
        self.assertEqual(counts(CARS, state), (1, 3, 1))

    def test_who_waits_is_outside_before_its_time_too(self):
        self.assertEqual(counts(((50, (0,)), (0, (0,))), state_with(NET, 10, {})), (2, 0, 0))

    def test_along_a_run(self):
        states = run(NET, CARS[:1], 6)
        self.assertEqual([counts(CARS[:1], state) for state in states], [
            (1, 0, 0), (0, 1, 0), (0, 1, 0), (0, 1, 0), (0, 1, 0), (0, 0, 1), (0, 0, 1),
        ])

    def test_they_are_all_cars(self):
        for seed in range(30):
            net = draw_net(seed)
            cars = draw_cars(seed, net)
            for state in [draw_state(seed, net, cars)] + run(net, cars, 30):
                waiting, driving, arrived = counts(cars, state)
                self.assertEqual(waiting + driving + arrived, len(cars))
                self.assertEqual(arrived, len(state[2]))
                self.assertEqual(driving, sum(len(row) for lanes in state[1] for row in lanes))


if __name__ == "__main__":
    unittest.main()
