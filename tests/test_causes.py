"""[13], [14]: why cars do not move, and which of them wait for one another in a ring."""

import unittest

from carfax.causes import cause, rings
from carfax.nets import check_cars, check_net
from carfax.states import beginning, check_state, place
from carfax.steps import changed, step
from tests.drawn import draw_cars, draw_net, draw_state
from tests.samples import TOWN, TOWN_CARS, TOWN_STATE, state_with

# Roads 0, 1 and 2 lead to road 3 by an order, road 3 by a light to road 4.
NET = (
    ((2, 5, 5, 0), (1, 5, 5, 0), (2, 5, 5, 0), (2, 5, 5, 1), (1, 5, 5, -1)),
    (
        (("order", (1, 0, 2)), (3,)),
        (("lights", ((3, (3,)), (2, ()))), (4,)),
    ),
)

CARS = (
    (50, (0, 3, 4)),
    (50, (1, 3, 4)),
    (50, (2, 3)),
    (50, (3, 4)),
    (50, (3, 4)),
    (50, (4,)),
    (50, (4,)),
    (50, (0, 3)),
    (50, (0, 3)),
    (50, (0, 3)),
)


class CauseTest(unittest.TestCase):
    def causes(self, told, found, time=5, cars=CARS, arrived=(), net=NET):
        """Checks the causes of all cars of the dict `found`, and that all others have none."""
        state = state_with(net, time, told, arrived)
        check_state(net, cars, state)
        answer = {car: cause(net, cars, state, car) for car in range(len(cars))}
        self.assertEqual({car: why for car, why in answer.items() if why is not None}, found)

    def test_the_samples_are_nets_and_cars(self):
        check_net(NET)
        check_cars(NET, CARS)


class OnRoadsTest(CauseTest):
    def test_it_moves(self):
        self.causes({(0, 0): ((0, 0, 0, 0),), (3, 1): ((3, 3, 4, 0),), (4, 0): ((0, 5, 5, 0),)}, {})
        self.causes({(4, 0): ((2, 6, 0, 0), (4, 5, 0, 0))}, {})

    def test_the_next_car(self):
        self.causes({(4, 0): ((3, 6, 0, 0), (4, 5, 0, 0))}, {6: ("car", 5)})
        self.causes({(4, 0): ((0, 6, 5, 0), (1, 5, 0, 0))}, {6: ("car", 5)})
        self.causes(
            {(1, 0): ((0, 1, 0, 0),), (4, 0): ((0, 6, 0, 0), (1, 5, 0, 0), (2, 3, 0, 1), (4, 4, 0, 1))},
            {6: ("car", 5), 5: ("car", 3)},
        )

    def test_the_next_car_has_the_cause_and_not_the_front_one(self):
        # All of them wait for the red light in the end.
        told = {(3, 0): ((1, 2, 0, 1), (2, 1, 0, 1), (3, 4, 0, 0), (4, 3, 0, 0)), (3, 1): ((1, 0, 0, 1), (4, 7, 0, 1))}
        cars = CARS[:7] + ((50, (0, 3, 4)),)
        self.causes(told, {
            2: ("car", 1), 1: ("car", 4), 4: ("car", 3), 3: ("light", 1), 7: ("light", 1),
        }, time=4, cars=cars)

    def test_a_light(self):
        told = {(3, 0): ((4, 3, 2, 0),)}
        for time in range(10):
            self.causes(told, {3: ("light", 1)} if time % 5 >= 3 else {}, time=time)

    def test_a_full_lane(self):
        self.causes({(3, 0): ((4, 3, 2, 0),), (4, 0): ((0, 5, 5, 0),)}, {3: ("full", 5)})
        self.causes({(1, 0): ((4, 1, 2, 0),), (3, 0): ((0, 3, 5, 0),)}, {1: ("full", 3)})

    def test_a_right_of_way(self):
        told = {(0, 1): ((4, 0, 0, 0),), (1, 0): ((4, 1, 0, 0),), (2, 1): ((4, 2, 0, 0),)}
        self.causes(told, {0: ("right", 1), 2: ("right", 1)})

    def test_a_lane_that_another_one_enters(self):
        self.causes({(3, 0): ((4, 3, 0, 0),), (3, 1): ((4, 4, 0, 0),)}, {4: ("lane", 3)})

    def test_who_is_not_let_through_but_has_room_moves(self):
        self.causes({(3, 0): ((3, 3, 2, 0),)}, {}, time=4)
        self.causes({(3, 0): ((3, 3, 2, 0),), (4, 0): ((0, 5, 5, 0),)}, {})
        self.causes({(0, 1): ((3, 0, 3, 0),), (1, 0): ((4, 1, 0, 0),)}, {})
        self.causes({(3, 0): ((4, 3, 0, 0),), (3, 1): ((3, 4, 3, 0),)}, {})

    def test_who_has_room_can_hold_another_one(self):
        self.causes({(0, 1): ((4, 0, 3, 0),), (1, 0): ((3, 1, 3, 0),)}, {0: ("right", 1)})
        self.causes({(3, 0): ((3, 3, 3, 0),), (3, 1): ((4, 4, 3, 0),)}, {4: ("lane", 3)})

    def test_who_leaves_the_net_moves(self):
        for speed in range(6):
            self.causes({(4, 0): ((4, 5, speed, 0),), (3, 0): ((4, 2, speed, 1),)}, {}, time=4)

    def test_the_speed_is_nothing_to_it(self):
        for speed in range(6):
            self.causes({(4, 0): ((3, 6, speed, 0), (4, 5, 0, 0))}, {6: ("car", 5)})
            self.causes({(3, 0): ((4, 3, speed, 0),)}, {3: ("light", 1)}, time=3)


class BehindTheChangesTest(CauseTest):
    """The rows behind part [9] tell the causes."""

    def test_who_goes_to_another_lane_moves(self):
        told = {(3, 0): ((3, 4, 0, 0), (4, 1, 0, 1))}
        self.causes(told, {}, time=1)
        self.causes(told, {4: ("car", 1)}, time=2)

    def test_a_change_of_lane_alone_is_no_move(self):
        # Both cars 3 and 4 go to the lane 1, and there car 3 is behind car 4 again.
        told = {(3, 0): ((2, 3, 0, 0), (3, 4, 0, 0), (4, 1, 0, 1))}
        self.causes(told, {3: ("car", 4)}, time=1)
        self.causes(told, {3: ("car", 4), 4: ("car", 1)}, time=2)
        following = step(NET, CARS, state_with(NET, 1, told))
        self.assertEqual([place(following, car) for car in (3, 4)], [(3, 1, 2), (3, 1, 4)])

    def test_who_has_no_room_beside_stays(self):
        told = {(3, 0): ((1, 3, 0, 0), (2, 2, 0, 1)), (3, 1): ((2, 4, 0, 0), (3, 0, 0, 1))}
        self.causes(told, {3: ("car", 2), 4: ("car", 0)}, time=1)

    def test_who_comes_from_another_lane_is_the_next_car(self):
        # Car 4 comes to the lane 1, just ahead of car 2 with speed 0, which had room in the state.
        told = {(3, 0): ((2, 4, 0, 0), (3, 1, 0, 1)), (3, 1): ((1, 2, 0, 1),)}
        self.causes(told, {2: ("car", 4)}, time=1)
        self.causes(told, {4: ("car", 1)}, time=2)

    def test_who_goes_away_is_the_next_car_no_more(self):
        # Car 4 goes to the lane 0; car 2 cannot go there, and has room then.
        told = {(3, 1): ((1, 2, 0, 1), (2, 4, 0, 0), (3, 1, 0, 1)), (3, 0): ((1, 3, 0, 0),)}
        self.causes(told, {3: ("car", 4)}, time=2)
        self.causes(told, {2: ("car", 4), 4: ("car", 1)}, time=1)

    def test_the_first_cell_behind_the_changes_is_full(self):
        told = {(1, 0): ((4, 1, 0, 0),), (3, 0): ((0, 3, 0, 0), (1, 4, 0, 0))}
        self.causes(told, {}, time=1)
        self.causes(told, {1: ("full", 3), 3: ("car", 4)}, time=2)
        told = {(1, 0): ((4, 1, 0, 0),), (3, 1): ((0, 3, 0, 0), (1, 4, 0, 0))}
        self.causes(told, {1: ("full", 3)}, time=2)
        self.causes(told, {3: ("car", 4)}, time=1)

    def test_a_front_car_behind_the_changes(self):
        # At odd times car 4 goes to the lane 1 before the front car asks, so that there it is the front car.
        told = {(3, 0): ((3, 4, 4, 0), (4, 3, 0, 0)), (4, 0): ((0, 5, 0, 0),)}
        self.causes(told, {3: ("full", 5)}, time=1)
        self.causes(told, {4: ("car", 3), 3: ("full", 5)}, time=2)


class OutsideTest(CauseTest):
    def test_its_time_has_not_come(self):
        self.causes({}, {}, time=49)
        self.causes({(4, 0): ((0, 5, 0, 0), (1, 6, 0, 0))}, {5: ("car", 6)}, time=49)

    def test_it_enters(self):
        self.causes({}, {}, cars=((5, (0, 3)), (5, (1, 3)), (6, (1, 3)), (0, (2, 3))))

    def test_another_one_goes_first(self):
        cars = ((4, (4,)), (3, (4,)), (6, (4,)), (3, (4,)), (3, (2, 3)), (5, (3, 4)))
        self.causes({}, {0: ("before", 1), 3: ("before", 1)}, cars=cars)
        self.causes({}, {0: ("before", 1), 3: ("before", 1), 2: ("before", 1)}, cars=cars, time=6)

    def test_the_first_one_is_told_and_not_the_next_one(self):
        cars = tuple((5 - car, (4,)) for car in range(4))
        self.causes({}, {0: ("before", 3), 1: ("before", 3), 2: ("before", 3)}, cars=cars)

    def test_another_one_goes_first_but_cannot(self):
        cars = ((0, (4,)), (0, (4,)), (9, (4,)), (9, (4,)))
        told = {(4, 0): ((0, 2, 0, 0), (1, 3, 0, 0))}
        self.causes(told, {0: ("enter", 2), 1: ("before", 0), 2: ("car", 3)}, cars=cars)

    def test_no_first_cell_is_free(self):
        cars = ((0, (3, 4)),) + ((9, (3,)),) * 4
        told = {(3, lane): ((0, 1 + lane, 0, 0), (1, 3 + lane, 0, 0)) for lane in range(2)}
        self.causes(told, {0: ("enter", 1), 1: ("car", 3), 2: ("car", 4)}, cars=cars)
        del told[(3, 1)]
        self.causes(told, {1: ("car", 3)}, cars=cars, time=6)
        told = {(3, 1): ((0, 2, 0, 0), (1, 4, 0, 0))}
        self.causes(told, {2: ("car", 4)}, cars=cars)

    def test_a_first_cell_is_left_in_the_step(self):
        cars = ((0, (4,)), (9, (4,)))
        self.causes({(4, 0): ((0, 1, 0, 0),)}, {}, cars=cars)

    def test_a_first_cell_is_entered_in_the_step(self):
        # Car 2 goes away from the first cell of road 4, but car 1 comes.
        cars = ((0, (4,)), (9, (3, 4)), (9, (4,)))
        self.causes({(3, 0): ((4, 1, 0, 0),)}, {0: ("enter", 1)}, cars=cars)
        self.causes({(3, 0): ((4, 1, 1, 0),)}, {}, cars=cars)
        self.causes({(3, 0): ((4, 1, 0, 0),), (4, 0): ((1, 2, 0, 0),)}, {0: ("enter", 1)}, cars=cars)
        # The cell that car 2 goes away from is full for car 1, and free for car 0.
        self.causes({(3, 0): ((4, 1, 0, 0),), (4, 0): ((0, 2, 0, 0),)}, {1: ("full", 2)}, cars=cars)

    def test_the_car_in_the_lane_0(self):
        # Car 2 comes into the lane 1, and car 1 is in the lane 0.
        cars = ((0, (3,)), (9, (3,)), (9, (2, 3)), (9, (3,)))
        told = {(2, 1): ((4, 2, 0, 0),), (3, 0): ((0, 1, 0, 0), (1, 3, 0, 0))}
        self.causes(told, {0: ("enter", 1), 1: ("car", 3)}, cars=cars, time=6)
        told = {(2, 0): ((4, 2, 0, 0),), (3, 1): ((0, 1, 0, 0), (1, 3, 0, 0))}
        self.causes(told, {0: ("enter", 2), 1: ("car", 3)}, cars=cars, time=5)

    def test_a_lane_behind_the_changes(self):
        # At the time 5, car 1 changes from the first cell of lane 0 to that of lane 1, and moves on there.
        cars = ((0, (3,)), (9, (3,)), (9, (3,)))
        told = {(3, 0): ((0, 1, 0, 0), (1, 2, 0, 0))}
        self.causes(told, {}, cars=cars, time=5)
        self.causes(told, {1: ("car", 2)}, cars=cars, time=6)

    def test_of_its_own_road(self):
        cars = ((0, (4,)), (0, (3, 4)), (9, (4,)), (9, (4,)))
        told = {(4, 0): ((0, 2, 0, 0), (1, 3, 0, 0))}
        self.causes(told, {0: ("enter", 2), 2: ("car", 3)}, cars=cars)

    def test_arrived(self):
        cars = ((0, (4,)), (0, (4,)), (0, (4,)))
        self.causes({(4, 0): ((2, 1, 0, 0),)}, {}, cars=cars, arrived=((0, 3),))
        self.causes({}, {}, cars=cars, arrived=((0, 3), (1, 5), (2, 0)))

    def test_at_the_beginning(self):
        cars = ((0, (4,)), (1, (4,)), (0, (4,)), (0, (3, 4)))
        state = beginning(NET)
        self.assertEqual([cause(NET, cars, state, car) for car in range(4)], [None, None, ("before", 0), None])


class EachCauseTest(unittest.TestCase):
    """Over drawn states: who has no cause has gone on, and who has one has not."""

    def test_causes_and_moves(self):
        for seed in range(120):
            net = draw_net(seed)
            cars = draw_cars(seed, net)
            state = draw_state(seed, net, cars)
            following = step(net, cars, state)
            arrived = [car for car, _ in state[2]]
            behind = (state[0], changed(net, cars, state), state[2])
            for car, (time, _) in enumerate(cars):
                why = cause(net, cars, state, car)
                was, now = place(behind, car), place(following, car)
                if car in arrived or was is None and time > state[0]:
                    self.assertIsNone(why)
                    self.assertEqual(was, now)
                elif was is None:
                    self.assertEqual(why is None, now is not None)
                else:
                    self.assertEqual(why is None, was != now)

    def test_in_a_town(self):
        # At the time 6 road 1 has red, and the time of car 3 has not come.
        found = [cause(TOWN, TOWN_CARS, TOWN_STATE, car) for car in range(8)]
        self.assertEqual(found, [None, None, None, None, None, ("light", 0), None, None])


# Roads 0 and 1 lead to each other; so do roads 2 and 3, and roads 4, 5 and 6 lead round. Road 7 leads to road 0.
ROUND = (
    (
        (1, 2, 5, 0), (1, 3, 5, 1), (1, 2, 5, 2), (1, 2, 5, 3),
        (1, 2, 5, 4), (1, 2, 5, 5), (1, 2, 5, 6), (1, 4, 5, 1),
    ),
    (
        (("order", (0,)), (1,)),
        (("order", (1, 7)), (0,)),
        (("lights", ((1, (2,)), (2, ()))), (3,)),
        (("order", (3,)), (2,)),
        (("lights", ((9, (4,)),)), (5,)),
        (("order", (5,)), (6,)),
        (("order", (6,)), (4,)),
    ),
)

AGAIN = ((0, 1, 0, 1), (1, 0, 1, 0), (2, 3, 2, 3), (3, 2, 3, 2), (4, 5, 6, 4), (5, 6, 4, 5), (6, 4, 5, 6), (7, 0, 1, 0))


def full_roads(places):
    """Cars and what is told of the lanes, from the cars of each road, the first cell first."""
    cars = {}
    told = {}
    for road, inside in places.items():
        told[(road, 0)] = tuple((cell, car, 0, 0) for cell, car in enumerate(inside) if car is not None)
        cars.update({car: (0, AGAIN[road]) for car in inside if car is not None})
    return tuple(cars[car] for car in range(len(cars))), told


class RingsTest(unittest.TestCase):
    def rings(self, places, found, time=0, net=ROUND):
        cars, told = full_roads(places)
        state = state_with(net, time, told)
        check_cars(net, cars)
        check_state(net, cars, state)
        self.assertEqual(rings(net, cars, state), found)
        return cars, state

    def test_the_sample_is_a_net(self):
        check_net(ROUND)

    def test_none(self):
        self.rings({}, [])
        self.rings({0: (0, 1)}, [])
        self.assertEqual(rings(TOWN, TOWN_CARS, TOWN_STATE), [])
        self.assertEqual(rings(TOWN, TOWN_CARS, beginning(TOWN)), [])

    def test_one(self):
        # Car 1 is the front car of road 0, and car 2 the first one of road 1.
        self.rings({0: (0, 1), 1: (2, 3, 4)}, [[0, 1, 2, 3, 4]])

    def test_the_order_of_the_ring(self):
        self.rings({0: (1, 0), 1: (2, 3, 4)}, [[0, 2, 3, 4, 1]])
        self.rings({0: (4, 3), 1: (2, 1, 0)}, [[0, 4, 3, 2, 1]])
        self.rings({0: (3, 1), 1: (4, 0, 2)}, [[0, 2, 3, 1, 4]])

    def test_by_full_lanes_and_by_cars(self):
        cars, state = self.rings({0: (0, 1), 1: (2, 3, 4)}, [[0, 1, 2, 3, 4]])
        found = [cause(ROUND, cars, state, car) for car in range(5)]
        self.assertEqual(found, [("car", 1), ("full", 2), ("car", 3), ("car", 4), ("full", 0)])

    def test_a_free_cell_breaks_it(self):
        self.rings({0: (0, 1), 1: (2, 3, None)}, [])
        self.rings({0: (0, 1), 1: (2, None, 3)}, [])
        self.rings({0: (0, 1), 1: (None, 2, 3)}, [])
        self.rings({0: (0, None), 1: (1, 2, 3)}, [])
        self.rings({0: (None, 0), 1: (1, 2, 3)}, [])

    def test_who_waits_for_a_ring_is_not_in_it(self):
        # Cars 0, 1 and 2 on road 7 wait for the ring.
        self.rings({7: (None, 0, 1, 2), 0: (3, 4), 1: (5, 6, 7)}, [[3, 4, 5, 6, 7]])
        self.rings({7: (5, 6, 7, 8), 0: (0, 1), 1: (2, 3, 4)}, [[0, 1, 2, 3, 4]])

    def test_who_waits_in_a_line_is_in_no_ring(self):
        self.rings({7: (0, 1, 2, 3)}, [])
        self.rings({7: (0, 1, 2, 3), 0: (4, 5)}, [])

    def test_several(self):
        self.rings({0: (0, 1), 1: (2, 3, 4), 2: (5, 6), 3: (7, 8)}, [[0, 1, 2, 3, 4], [5, 6, 7, 8]])
        self.rings({0: (4, 5), 1: (6, 7, 8), 2: (0, 1), 3: (2, 3)}, [[0, 1, 2, 3], [4, 5, 6, 7, 8]])

    def test_ascending(self):
        self.rings(
            {0: (8, 3), 1: (9, 4, 13), 2: (6, 12), 3: (0, 11), 4: (5, 1), 5: (10, 7), 6: (14, 2)},
            [[0, 11, 6, 12], [1, 10, 7, 14, 2, 5], [3, 9, 4, 13, 8]],
        )

    def test_a_light_breaks_it(self):
        for time in range(6):
            found = [[0, 1, 2, 3]] if time % 3 == 0 else []
            self.rings({2: (0, 1), 3: (2, 3)}, found, time=time)

    def test_a_light_that_is_green_does_not(self):
        self.rings({4: (0, 1), 5: (2, 3), 6: (4, 5)}, [[0, 1, 2, 3, 4, 5]], time=8)

    def test_a_right_of_way_is_no_part_of_one(self):
        # Car 1 waits for car 3 on road 7, which has the right of way, and that one for nobody.
        net = (ROUND[0], (ROUND[1][0], (("order", (7, 1)), (0,))) + ROUND[1][2:])
        check_net(net)
        cars, told = full_roads({7: (None, None, None, 3), 1: (None, 0, 1), 0: (None, 2)})
        state = state_with(net, 0, told)
        self.assertEqual(cause(net, cars, state, 1), ("right", 3))
        self.assertEqual(rings(net, cars, state), [])

    def test_causes_of_other_kinds_tell_no_ring(self):
        # Car 1 waits for the crossing 1, and car 0 for car 1: the number of the crossing is no car.
        net = (((1, 3, 1, 1),), ((("order", ()), ()), (("lights", ((1, ()),)), (0,))))
        cars = ((0, (0, 0)), (0, (0, 0)))
        check_net(net)
        state = (0, ((((1, 0, 0, 0), (2, 1, 0, 0)),),), ())
        self.assertEqual([cause(net, cars, state, car) for car in range(2)], [("car", 1), ("light", 1)])
        self.assertEqual(rings(net, cars, state), [])
        # Who waits outside waits for others, and they do not wait for it.
        cars = ((0, (0, 0)), (0, (0, 0)), (0, (0, 0)), (0, (0, 0)), (0, (0, 0)))
        state = (0, ((((0, 0, 0, 0), (1, 2, 0, 0), (2, 1, 0, 0)),),), ())
        self.assertEqual([cause(net, cars, state, car) for car in range(5)], [
            ("car", 2), ("light", 1), ("car", 1), ("enter", 0), ("before", 3),
        ])
        self.assertEqual(rings(net, cars, state), [])

    def test_a_road_that_leads_to_itself(self):
        net = (((1, 3, 1, 0),), ((("order", (0,)), (0,)),))
        cars = ((0, (0, 0, 0)),) * 3
        state = (0, ((((0, 2, 0, 0), (1, 0, 0, 1), (2, 1, 0, 0)),),), ())
        check_net(net)
        check_state(net, cars, state)
        self.assertEqual(rings(net, cars, state), [[0, 1, 2]])
        state = (0, ((((0, 1, 0, 0), (1, 0, 0, 0), (2, 2, 0, 0)),),), ())
        self.assertEqual(rings(net, cars, state), [[0, 2, 1]])
        # On its last leg, car 0 leaves the net.
        cars = ((0, (0,)), (0, (0, 0)), (0, (0, 0)))
        state = (0, ((((0, 2, 0, 0), (1, 1, 0, 1), (2, 0, 0, 0)),),), ())
        self.assertEqual(rings(net, cars, state), [])

    def test_in_lanes(self):
        # Two lanes that lead to themselves: two rings side by side.
        net = (((2, 2, 1, 0),), ((("order", (0,)), (0,)),))
        cars = ((0, (0, 0)),) * 4
        state = (0, ((((0, 3, 0, 0), (1, 1, 0, 0)), ((0, 2, 0, 0), (1, 0, 0, 0))),), ())
        check_state(net, cars, state)
        self.assertEqual(rings(net, cars, state), [[0, 2], [1, 3]])

    def test_by_the_rows_behind_the_changes(self):
        # Lane 1 is free, and at odd times cars go there: then there is no ring.
        net = (((2, 2, 1, 0),), ((("order", (0,)), (0,)),))
        cars = ((0, (0, 0)),) * 2
        state = (0, ((((0, 1, 0, 0), (1, 0, 0, 0)), ()),), ())
        self.assertEqual(rings(net, cars, state), [[0, 1]])
        self.assertEqual(rings(net, cars, (1,) + state[1:]), [])

    def test_the_cars_of_a_ring_never_move_again(self):
        cars, state = self.rings({0: (0, 1), 1: (2, 3, 4), 7: (None, 5, None, 6), 4: (7, None)}, [[0, 1, 2, 3, 4]])
        for _ in range(30):
            following = step(ROUND, cars, state)
            for car in range(5):
                self.assertEqual(place(following, car), place(state, car))
            self.assertEqual(rings(ROUND, cars, following), [[0, 1, 2, 3, 4]])
            state = following

    def test_each_ring_of_drawn_states(self):
        seen = 0
        for seed in range(200):
            net = draw_net(seed, most_roads=3, lanes=1, cells=3)
            cars = draw_cars(seed, net)
            state = draw_state(seed, net, cars)
            found = rings(net, cars, state)
            seen += len(found)
            self.assertEqual(found, sorted(found))
            for ring in found:
                self.assertEqual(ring[0], min(ring))
                self.assertEqual(len(set(ring)), len(ring))
                for car, other in zip(ring, ring[1:] + ring[:1]):
                    self.assertIn(cause(net, cars, state, car), (("car", other), ("full", other)))
            before = [place(state, car) for ring in found for car in ring]
            for _ in range(5):
                state = step(net, cars, state)
            self.assertEqual([place(state, car) for ring in found for car in ring], before)
        self.assertGreater(seen, 20)

    def test_lists_come_back(self):
        cars, told = full_roads({0: (0, 1), 1: (2, 3, 4)})
        found = rings(ROUND, cars, state_with(ROUND, 0, told))
        self.assertIs(type(found), list)
        self.assertIs(type(found[0]), list)


if __name__ == "__main__":
    unittest.main()
