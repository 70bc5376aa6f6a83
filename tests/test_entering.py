"""[12]: which car enters from outside, and where."""

import unittest

from carfax.nets import check_cars, check_net
from carfax.states import beginning, check_state
from carfax.steps import step
from tests.samples import state_with

# Roads 0 and 1 lead to road 2, roads 2 and 3 to none.
NET = (
    ((1, 4, 5, 0), (2, 4, 5, 0), (3, 6, 5, -1), (1, 4, 5, -1)),
    ((("lights", ((1, (0, 1)),)), (2,)),),
)

CARS = (
    (9, (2,)),
    (4, (2,)),
    (6, (2,)),
    (4, (2,)),
    (5, (0, 2)),
    (5, (1, 2)),
    (7, (1,)),
    (40, (3,)),
    (40, (2,)),
    (40, (1, 2)),
    (40, (1, 2)),
    (40, (0, 2)),
)


class EnteringTest(unittest.TestCase):
    def steps(self, told, after, arrived=(), time=5, cars=CARS, before=()):
        state = state_with(NET, time, told, before)
        check_state(NET, cars, state)
        found = step(NET, cars, state)
        self.assertEqual(found, state_with(NET, time + 1, after, arrived))
        check_state(NET, cars, found)

    def test_the_samples_are_nets_and_cars(self):
        check_net(NET)
        check_cars(NET, CARS)


class WhenTest(EnteringTest):
    def test_its_time_is_at_most_that_of_the_state(self):
        cars = ((5, (3,)),)
        self.steps({}, {}, time=0, cars=cars)
        self.steps({}, {}, time=4, cars=cars)
        for time in (5, 6, 50, 1000):
            self.steps({}, {(3, 0): ((0, 0, 0, 0),)}, time=time, cars=cars)

    def test_at_the_beginning(self):
        cars = ((0, (3,)), (1, (0,)))
        self.assertEqual(step(NET, cars, beginning(NET)), state_with(NET, 1, {(3, 0): ((0, 0, 0, 0),)}))

    def test_on_its_first_road(self):
        cars = ((5, (0, 2)),)
        self.steps({}, {(0, 0): ((0, 0, 0, 0),)}, cars=cars)

    def test_who_is_inside_does_not_enter(self):
        cars = ((0, (0, 2)), (0, (1, 2)), (0, (3,)))
        told = {(2, 0): ((2, 0, 0, 1),), (1, 0): ((1, 1, 0, 0),)}
        after = {(2, 0): ((3, 0, 1, 1),), (1, 0): ((2, 1, 1, 0),)}
        self.steps(told, after, ((2, 3),), cars=cars, before=((2, 3),))

    def test_who_has_just_left_does_not_enter_again(self):
        cars = ((0, (3,)), (0, (1,)))
        told = {(3, 0): ((3, 0, 0, 0),), (1, 1): ((3, 1, 0, 0),)}
        self.steps(told, {}, ((0, 6), (1, 6)), cars=cars)


class WhoTest(EnteringTest):
    def test_the_least_time(self):
        cars = ((5, (3,)), (4, (3,)), (2, (3,)), (3, (3,)), (2, (0,)))
        self.steps({}, {(3, 0): ((0, 2, 0, 0),), (0, 0): ((0, 4, 0, 0),)}, cars=cars)

    def test_of_several_the_least_car(self):
        cars = ((5, (3,)), (4, (3,)), (4, (3,)), (4, (3,)))
        self.steps({}, {(3, 0): ((0, 1, 0, 0),)}, cars=cars)

    def test_of_those_whose_time_has_come(self):
        cars = ((7, (3,)), (6, (3,)), (5, (3,)), (6, (3,)))
        self.steps({}, {(3, 0): ((0, 2, 0, 0),)}, cars=cars)

    def test_one_after_the_other(self):
        cars = ((5, (2,)), (4, (2,)), (9, (2,)), (4, (2,)))
        state = state_with(NET, 5, {})
        entered = []
        for _ in range(6):
            inside = [told[1] for row in state[1][2] for told in row] + [car for car, _ in state[2]]
            state = step(NET, cars, state)
            new = [told[1] for row in state[1][2] for told in row if told[1] not in inside]
            entered.append(new)
        self.assertEqual(entered, [[1], [3], [0], [], [2], []])

    def test_one_car_a_road(self):
        # Road 2 has three free lanes, and three cars wait for it.
        self.steps({}, {
            (0, 0): ((0, 4, 0, 0),), (1, 0): ((0, 5, 0, 0),), (2, 0): ((0, 1, 0, 0),),
        }, time=6)

    def test_who_waits_for_the_first_one_does_not_enter_before_it(self):
        # The lane of the road is taken, and so no other one goes.
        cars = ((5, (3,)), (4, (3,)), (40, (3,)))
        told = {(3, 0): ((0, 2, 0, 0), (1, 1, 0, 0))}
        self.steps(told, {(3, 0): ((0, 2, 0, 0), (2, 1, 1, 0))}, cars=cars)


class WhereTest(EnteringTest):
    def test_the_least_lane_whose_first_cell_is_free(self):
        # Each lane has a car in the cell 1, so that nobody in a cell 0 moves or changes its lane.
        cars = ((5, (2,)),) + ((40, (2,)),) * 6
        for taken in range(8):
            told, after = {}, {}
            for lane in range(3):
                told[(2, lane)] = ((1, 1 + lane, 0, 0),)
                after[(2, lane)] = ((2, 1 + lane, 1, 0),)
                if taken >> lane & 1:
                    told[(2, lane)] = ((0, 4 + lane, 0, 0),) + told[(2, lane)]
                    after[(2, lane)] = ((0, 4 + lane, 0, 0),) + after[(2, lane)]
            free = [lane for lane in range(3) if not taken >> lane & 1]
            if free:
                after[(2, free[0])] = ((0, 0, 0, 0),) + after[(2, free[0])]
            for time in (5, 6):
                self.steps(told, after, time=time, cars=cars)

    def test_in_no_lane_if_none_is_free(self):
        cars = ((5, (3,)), (40, (3,)), (40, (3,)))
        told = {(3, 0): ((0, 1, 0, 0), (1, 2, 0, 0))}
        self.steps(told, {(3, 0): ((0, 1, 0, 0), (2, 2, 1, 0))}, cars=cars)

    def test_before_others_on_the_lane(self):
        cars = ((5, (3,)), (40, (3,)))
        self.steps({(3, 0): ((1, 1, 0, 0),)}, {(3, 0): ((0, 0, 0, 0), (2, 1, 1, 0))}, cars=cars)

    def test_a_first_cell_that_is_left_in_the_same_step(self):
        cars = ((5, (3,)), (40, (3,)))
        self.steps({(3, 0): ((0, 1, 0, 0),)}, {(3, 0): ((0, 0, 0, 0), (1, 1, 1, 0))}, cars=cars)
        # Over the end of a road with two cells.
        net = (((1, 2, 5, -1),), ())
        state = (5, ((((0, 1, 3, 0),),),), ())
        self.assertEqual(step(net, ((5, (0,)), (40, (0,))), state), (6, ((((0, 0, 0, 0),),),), ((1, 6),)))

    def test_a_first_cell_that_is_left_for_the_lane_beside(self):
        cars = ((5, (1,)), (40, (1,)), (40, (1,)))
        told = {(1, 0): ((0, 1, 0, 0), (1, 2, 0, 0))}
        self.steps(told, {(1, 0): ((0, 0, 0, 0), (2, 2, 1, 0)), (1, 1): ((1, 1, 1, 0),)}, time=7, cars=cars)

    def test_a_first_cell_that_is_entered_in_the_same_step(self):
        # Car 0 would enter road 2, where car 1 comes into the lane 0.
        cars = ((5, (2,)), (40, (0, 2)), (40, (1, 2)))
        self.steps(
            {(0, 0): ((3, 1, 0, 0),)},
            {(2, 0): ((0, 1, 1, 1),), (2, 1): ((0, 0, 0, 0),)}, cars=cars,
        )
        self.steps(
            {(0, 0): ((3, 1, 0, 0),), (1, 1): ((3, 2, 0, 0),)},
            {(2, 0): ((0, 1, 1, 1),), (2, 1): ((0, 2, 1, 1),), (2, 2): ((0, 0, 0, 0),)}, cars=cars,
        )
        # It goes on beyond the cell 0.
        self.steps(
            {(0, 0): ((3, 1, 1, 0),)},
            {(2, 0): ((0, 0, 0, 0), (1, 1, 2, 1))}, cars=cars,
        )

    def test_the_only_lane_is_entered_in_the_same_step(self):
        net = (((1, 4, 5, 0), (1, 4, 5, -1)), ((("order", (0,)), (1,)),))
        cars = ((0, (1,)), (0, (0, 1)))
        state = state_with(net, 5, {(0, 0): ((3, 1, 0, 0),)})
        self.assertEqual(step(net, cars, state), state_with(net, 6, {(1, 0): ((0, 1, 1, 1),)}))

    def test_a_car_that_has_entered_moves_on_from_the_next_step(self):
        cars = ((5, (3,)),)
        self.steps({}, {(3, 0): ((0, 0, 0, 0),)}, cars=cars)
        self.steps({(3, 0): ((0, 0, 0, 0),)}, {(3, 0): ((1, 0, 1, 0),)}, time=6, cars=cars)

    def test_all_roads_in_one_step(self):
        cars = tuple((car, (3 - car,)) for car in range(4))
        self.steps({}, {(3 - car, 0): ((0, car, 0, 0),) for car in range(4)}, cars=cars)


if __name__ == "__main__":
    unittest.main()
