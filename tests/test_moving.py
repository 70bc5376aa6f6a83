"""[8], [11]: where the cars are behind a step, and how fast they have been."""

import unittest

from carfax.nets import check_cars, check_net
from carfax.states import check_state
from carfax.steps import step
from tests.samples import state_with

# Roads 0, 1 and 6 lead to roads 2 to 5; roads 4 and 6 lead to themselves, too.
NET = (
    (
        (1, 6, 5, 0),
        (2, 6, 2, 0),
        (1, 10, 1, 1),
        (1, 2, 5, -1),
        (1, 10, 5, 2),
        (2, 10, 5, -1),
        (2, 10, 5, 0),
    ),
    (
        (("order", (0, 1, 6)), (2, 3, 5, 6)),
        (("lights", ((1, ()), (1, (2,)))), ()),
        (("order", (4,)), (4,)),
    ),
)

CARS = (
    (50, (0, 2)),
    (50, (0, 3)),
    (50, (0, 5)),
    (50, (1, 5)),
    (50, (1, 5)),
    (50, (5,)),
    (50, (5,)),
    (50, (2,)),
    (50, (4, 4, 4, 4)),
    (50, (4, 4)),
    (50, (3,)),
    (50, (6, 6, 5)),
    (50, (6,)),
    (50, (6, 5)),
    (50, (0,)),
)


class MovingTest(unittest.TestCase):
    def steps(self, told, after, arrived=(), time=5):
        before = state_with(NET, time, told)
        check_state(NET, CARS, before)
        found = step(NET, CARS, before)
        self.assertEqual(found, state_with(NET, time + 1, after, arrived))
        check_state(NET, CARS, found)

    def test_the_samples_are_nets_and_cars(self):
        check_net(NET)
        check_cars(NET, CARS)

    def test_nobody_there(self):
        self.steps({}, {})
        self.assertEqual(step(NET, (), state_with(NET, 1000, {})), state_with(NET, 1001, {}))


class OnTheLaneTest(MovingTest):
    def test_what_is_wanted(self):
        for speed, want in enumerate((1, 2, 3, 4, 5, 5)):
            self.steps({(4, 0): ((1, 8, speed, 0),)}, {(4, 0): ((1 + want, 8, want, 0),)})

    def test_the_limit_of_the_road(self):
        for speed in range(6):
            self.steps({(2, 0): ((1, 7, speed, 0),)}, {(2, 0): ((2, 7, 1, 0),)})
            want = min(speed + 1, 2)
            self.steps({(1, 1): ((1, 3, speed, 0),)}, {(1, 1): ((1 + want, 3, want, 0),)})

    def test_the_room_ahead(self):
        for ahead in range(5):
            told = {(4, 0): ((1, 8, 5, 2), (2 + ahead, 9, 0, 1))}
            self.steps(told, {(4, 0): ((1 + ahead, 8, ahead, 2), (3 + ahead, 9, 1, 1))})

    def test_the_room_up_to_the_end(self):
        # Road 2 has red at even times.
        self.steps({(2, 0): ((8, 7, 5, 0),)}, {(2, 0): ((9, 7, 1, 0),)}, time=4)
        self.steps({(0, 0): ((2, 0, 2, 0),)}, {(0, 0): ((5, 0, 3, 0),)})

    def test_all_at_once(self):
        # Nobody sees that the car ahead goes on in this step, too.
        self.steps(
            {(4, 0): ((0, 8, 5, 0), (1, 9, 5, 1))},
            {(4, 0): ((0, 8, 0, 0), (6, 9, 5, 1))},
        )
        self.steps(
            {(0, 0): ((0, 0, 0, 0), (1, 1, 0, 0), (2, 2, 0, 0), (5, 14, 0, 0))},
            {(0, 0): ((0, 0, 0, 0), (1, 1, 0, 0), (3, 2, 1, 0))},
            ((14, 6),),
        )

    def test_who_is_held_goes_on_to_the_end(self):
        # The first cell of road 2 is taken.
        told = {(0, 0): ((3, 0, 4, 0),), (2, 0): ((0, 7, 0, 0),)}
        self.steps(told, {(0, 0): ((5, 0, 2, 0),), (2, 0): ((1, 7, 1, 0),)})
        told = {(0, 0): ((5, 0, 4, 0),), (2, 0): ((0, 7, 0, 0),)}
        self.steps(told, {(0, 0): ((5, 0, 0, 0),), (2, 0): ((1, 7, 1, 0),)})

    def test_a_held_car_holds_those_behind_it(self):
        told = {(0, 0): ((1, 1, 3, 0), (3, 0, 5, 0)), (2, 0): ((0, 7, 0, 0),)}
        self.steps(told, {(0, 0): ((2, 1, 1, 0), (5, 0, 2, 0)), (2, 0): ((1, 7, 1, 0),)})

    def test_the_right_of_way(self):
        told = {(0, 0): ((5, 2, 0, 0),), (1, 0): ((5, 3, 1, 0),), (1, 1): ((4, 4, 1, 0),)}
        self.steps(told, {
            (5, 0): ((0, 2, 1, 1),), (1, 0): ((5, 3, 0, 0),), (1, 1): ((5, 4, 1, 0),),
        })


class BeyondTheEndTest(MovingTest):
    def test_into_an_empty_lane(self):
        for speed in range(6):
            want = min(speed + 1, 5)
            for ahead in range(want):
                self.steps(
                    {(0, 0): ((5 - ahead, 2, speed, 0),)},
                    {(5, 0): ((want - ahead - 1, 2, want, 1),)},
                )

    def test_behind_the_first_car(self):
        for cell in range(1, 9):
            for ahead in range(5):
                entered = min(5 - ahead - 1, cell - 1)
                self.steps(
                    {(0, 0): ((5 - ahead, 2, 5, 0),), (5, 0): ((cell, 5, 0, 0),)},
                    {(5, 0): ((entered, 2, ahead + 1 + entered, 1), (cell + 1, 5, 1, 0))},
                )

    def test_in_a_short_lane(self):
        for speed in range(6):
            entered = min(speed, 1)
            self.steps({(0, 0): ((5, 1, speed, 0),)}, {(3, 0): ((entered, 1, 1 + entered, 1),)})
        self.steps({(0, 0): ((2, 1, 4, 0),)}, {(3, 0): ((1, 1, 5, 1),)})
        told = {(0, 0): ((5, 1, 5, 0),), (3, 0): ((1, 10, 0, 0),)}
        self.steps(told, {(3, 0): ((0, 1, 1, 1),)}, ((10, 6),))

    def test_the_limit_of_the_road_that_it_leaves(self):
        # Road 2 has the limit 1, and road 1 the limit 2.
        self.steps({(0, 0): ((5, 0, 4, 0),)}, {(2, 0): ((4, 0, 5, 1),)})
        self.steps({(1, 0): ((5, 3, 5, 0),)}, {(5, 0): ((1, 3, 2, 1),)})
        self.steps({(1, 1): ((4, 3, 5, 0),)}, {(5, 1): ((0, 3, 2, 1),)})

    def test_in_the_next_step_the_limit_of_the_road_that_it_enters(self):
        self.steps({(2, 0): ((4, 0, 5, 1),)}, {(2, 0): ((5, 0, 1, 1),)})

    def test_the_lane_that_is_entered(self):
        told = {(1, 0): ((5, 3, 0, 0),), (1, 1): ((5, 4, 1, 0),), (5, 1): ((1, 6, 0, 0),)}
        self.steps(told, {(5, 0): ((0, 3, 1, 1),), (5, 1): ((0, 4, 1, 1), (2, 6, 1, 0))})

    def test_the_first_car_stood_there_before_the_move(self):
        # Car 5 is away behind the step, and car 6 far off, but not when car 2 looks.
        self.steps(
            {(0, 0): ((5, 2, 5, 0),), (5, 0): ((2, 6, 5, 0),)},
            {(5, 0): ((1, 2, 2, 1), (7, 6, 5, 0))},
        )
        told = {(0, 0): ((5, 1, 5, 0),), (3, 0): ((1, 10, 5, 0),)}
        self.steps(told, {(3, 0): ((0, 1, 1, 1),)}, ((10, 6),))

    def test_the_first_car_by_the_rows_behind_the_changes(self):
        # At odd times car 5 goes to lane 1 before car 2 comes, at even times it does not.
        told = {(0, 0): ((5, 2, 5, 0),), (5, 0): ((2, 5, 0, 0), (3, 6, 0, 0))}
        self.steps(told, {(5, 0): ((2, 2, 3, 1), (4, 6, 1, 0)), (5, 1): ((3, 5, 1, 0),)}, time=5)
        self.steps(told, {(5, 0): ((1, 2, 2, 1), (2, 5, 0, 0), (4, 6, 1, 0))}, time=4)

    def test_the_first_car_may_have_come_from_the_other_lane(self):
        told = {(0, 0): ((5, 2, 5, 0),), (5, 1): ((2, 5, 0, 0), (3, 6, 0, 0))}
        self.steps(told, {(5, 0): ((1, 2, 2, 1), (3, 5, 1, 0)), (5, 1): ((4, 6, 1, 0),)}, time=4)
        self.steps(told, {(5, 0): ((4, 2, 5, 1),), (5, 1): ((2, 5, 0, 0), (4, 6, 1, 0))}, time=5)

    def test_who_changed_lane_crosses_from_there(self):
        told = {(6, 0): ((8, 11, 3, 0), (9, 12, 0, 0))}
        self.steps(told, {(6, 1): ((2, 11, 4, 1),)}, ((12, 6),), time=5)
        told = {(6, 0): ((8, 11, 3, 0), (9, 12, 0, 0))}
        self.steps(told, {(6, 0): ((8, 11, 0, 0),)}, ((12, 5),), time=4)

    def test_the_leg_counts_on(self):
        for leg in range(3):
            self.steps({(4, 0): ((9, 8, 1, leg),)}, {(4, 0): ((1, 8, 2, leg + 1),)})

    def test_into_its_own_road(self):
        # Car 8 has nobody before it but itself, at the end of the lane.
        self.steps({(4, 0): ((9, 8, 4, 0),)}, {(4, 0): ((4, 8, 5, 1),)})
        self.steps({(4, 0): ((6, 8, 4, 0),)}, {(4, 0): ((1, 8, 5, 1),)})
        self.steps(
            {(4, 0): ((2, 9, 0, 1), (9, 8, 4, 0))},
            {(4, 0): ((1, 8, 2, 1), (3, 9, 1, 1))},
        )

    def test_its_own_cell_bounds_it_on_a_short_road(self):
        net = (((1, 2, 5, 0),), ((("order", (0,)), (0,)),))
        cars = ((9, (0, 0, 0)),)
        self.assertEqual(step(net, cars, (3, ((((1, 0, 4, 0),),),), ())), (4, ((((0, 0, 1, 1),),),), ()))
        self.assertEqual(step(net, cars, (3, ((((0, 0, 4, 0),),),), ())), (4, ((((1, 0, 1, 0),),),), ()))

    def test_round_and_round(self):
        # All go at once: each goes away from the end and comes to the first cell.
        self.steps(
            {(6, 0): ((9, 11, 0, 0),), (6, 1): ((9, 13, 0, 0),)},
            {(6, 0): ((0, 11, 1, 1),), (5, 1): ((0, 13, 1, 1),)},
        )


class LeavingTest(MovingTest):
    def test_it_has_arrived(self):
        for speed in range(6):
            for time in (0, 7, 49):
                self.steps({(3, 0): ((1, 10, speed, 0),)}, {}, ((10, time + 1),), time=time)

    def test_several_from_several_lanes(self):
        told = {(5, 0): ((9, 6, 0, 0),), (5, 1): ((9, 5, 0, 0),), (3, 0): ((1, 10, 0, 0),), (0, 0): ((5, 14, 0, 0),)}
        self.steps(told, {}, ((5, 6), (6, 6), (10, 6), (14, 6)))

    def test_beside_those_who_had_arrived(self):
        before = state_with(NET, 8, {(5, 0): ((9, 6, 0, 0),), (3, 0): ((1, 1, 0, 1),)}, ((0, 0), (2, 8), (10, 3)))
        check_state(NET, CARS, before)
        self.assertEqual(step(NET, CARS, before), (
            9, state_with(NET, 9, {})[1], ((0, 0), (1, 9), (2, 8), (6, 9), (10, 3)),
        ))

    def test_one_leaves_as_another_comes(self):
        told = {(3, 0): ((1, 10, 3, 0),), (0, 0): ((4, 1, 3, 0),)}
        self.steps(told, {(3, 0): ((0, 1, 2, 1),)}, ((10, 6),))

    def test_on_the_last_leg_only(self):
        self.steps({(4, 0): ((9, 8, 0, 3),)}, {}, ((8, 6),))
        self.steps({(4, 0): ((9, 9, 0, 1),)}, {}, ((9, 6),))
        self.steps({(4, 0): ((9, 9, 0, 0),)}, {(4, 0): ((0, 9, 1, 1),)})


class WholeStepTest(MovingTest):
    def test_all_of_it(self):
        # Car 3 changes its lane and then moves; car 8 stands where car 9 would come.
        told = {
            (0, 0): ((0, 1, 3, 0), (4, 0, 3, 0)),
            (1, 0): ((2, 3, 1, 0), (3, 4, 0, 0)),
            (2, 0): ((3, 7, 1, 0),),
            (4, 0): ((0, 8, 2, 2), (5, 9, 5, 0)),
            (5, 1): ((7, 5, 3, 0), (9, 6, 3, 0)),
        }
        self.steps(told, {
            (0, 0): ((3, 1, 3, 0),),
            (1, 0): ((4, 4, 1, 0),),
            (1, 1): ((4, 3, 2, 0),),
            (2, 0): ((2, 0, 4, 1), (4, 7, 1, 0)),
            (4, 0): ((3, 8, 3, 2), (9, 9, 4, 0)),
            (5, 1): ((8, 5, 1, 0),),
        }, ((6, 6),))


if __name__ == "__main__":
    unittest.main()
