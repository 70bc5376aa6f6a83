"""[10]: who asks, in which order they are gone through, and who is let through."""

import unittest

from carfax.nets import check_cars, check_net
from carfax.states import check_state
from carfax.steps import asking, let_through, step
from tests.samples import TOWN, TOWN_CARS, TOWN_STATE, rows_with

ROADS = (
    (2, 6, 5, 0),
    (1, 6, 5, 0),
    (3, 6, 3, 0),
    (2, 8, 5, 1),
    (1, 8, 5, -1),
    (2, 4, 4, 1),
    (1, 5, 5, -1),
    (3, 2, 1, 0),
)

# Roads 0, 1, 2 and 7 lead to roads 3, 4 and 7, and road 3 with road 5 to road 6.
LIGHT = ("lights", ((2, (3,)), (1, (3, 5)), (1, ())))
ORDERED = (ROADS, ((("order", (2, 0, 7, 1)), (3, 4, 7)), (LIGHT, (6,))))
LIGHTS = (ROADS, ((("lights", ((3, (0, 1, 2, 7)), (2, (1, 2)), (1, ()))), (3, 4, 7)), (LIGHT, (6,))))

CARS = (
    (0, (0, 3, 6)),
    (0, (0, 4)),
    (0, (1, 3)),
    (0, (1, 4)),
    (0, (2, 3)),
    (0, (2, 3, 6)),
    (0, (2, 4)),
    (0, (2, 7, 7, 3)),
    (0, (3, 6)),
    (0, (5, 6)),
    (0, (4,)),
    (0, (7, 3)),
    (0, (0, 7)),
    (0, (3,)),
    (0, (0,)),
    (0, (5, 6)),
    (0, (1, 7, 4)),
)


class CrossingTest(unittest.TestCase):
    def asks(self, told, found, net=ORDERED, time=0):
        rows = rows_with(net, told)
        check_state(net, CARS, (time, rows, ()))
        self.assertEqual(asking(net, CARS, time, rows), found)

    def lets(self, told, through, held, net=ORDERED, time=0):
        """Checks which cars are let through, and the causes of the others, and that they are those that ask."""
        rows = rows_with(net, told)
        check_state(net, CARS, (time, rows, ()))
        answer = let_through(net, CARS, time, rows)
        self.assertEqual(([asked[0] for asked in answer[0]], answer[1]), (through, held))
        order = [asked for asked in asking(net, CARS, time, rows) if asked[0] in through]
        self.assertEqual(answer[0], order)


class SamplesTest(unittest.TestCase):
    def test_they_are_nets_and_cars(self):
        for net in (ORDERED, LIGHTS):
            check_net(net)
            check_cars(net, CARS)


class AskingTest(CrossingTest):
    def test_nobody_there(self):
        self.asks({}, [])
        self.assertEqual(asking(ORDERED, (), 5, rows_with(ORDERED, {})), [])

    def test_what_is_wanted_is_greater_than_the_room(self):
        for speed in range(6):
            want = min(speed + 1, 5)
            for ahead in range(6):
                told = {(1, 0): ((5 - ahead, 3, speed, 0),)}
                self.asks(told, [(3, 1, 0, 4, 0)] if want > ahead else [])

    def test_the_limit_of_its_road_counts(self):
        # Road 2 has the limit 3, and road 7 the limit 1.
        kinds = ((5, 2, True), (5, 3, False), (2, 2, True), (1, 2, False), (0, 0, True), (0, 1, False))
        for speed, ahead, yes in kinds:
            self.asks({(2, 0): ((5 - ahead, 6, speed, 0),)}, [(6, 2, 0, 4, 0)] if yes else [])
        self.asks({(7, 0): ((1, 11, 5, 0),)}, [(11, 7, 0, 3, 0)])
        self.asks({(7, 0): ((0, 11, 5, 0),)}, [])

    def test_only_the_front_car_of_a_lane(self):
        self.asks({(0, 0): ((4, 0, 5, 0), (5, 1, 0, 0))}, [(1, 0, 0, 4, 0)])
        self.asks({(0, 1): ((0, 0, 5, 0), (1, 1, 0, 0))}, [])
        self.asks({(0, 0): ((2, 0, 5, 0), (3, 1, 0, 0)), (0, 1): ((4, 12, 2, 0),)}, [(12, 0, 1, 7, 1)])

    def test_who_is_on_the_last_leg_leaves(self):
        self.asks({(4, 0): ((7, 10, 5, 0),)}, [])
        self.asks({(3, 0): ((7, 13, 5, 0),), (3, 1): ((7, 8, 5, 0),)}, [(8, 3, 1, 6, 0)])
        self.asks({(4, 0): ((7, 1, 5, 1),), (0, 1): ((5, 14, 0, 0),)}, [])

    def test_the_leg_and_not_the_road_tells_where_to(self):
        self.asks({(7, 2): ((1, 7, 0, 1),)}, [(7, 7, 2, 7, 2)])
        self.asks({(7, 2): ((1, 7, 0, 2),)}, [(7, 7, 2, 3, 1)])

    def test_its_own_lane_or_the_last_one(self):
        for lane, next_lane in ((0, 0), (1, 1), (2, 1)):
            self.asks({(2, lane): ((5, 4, 0, 0),)}, [(4, 2, lane, 3, next_lane)])
            self.asks({(2, lane): ((5, 6, 0, 0),)}, [(6, 2, lane, 4, 0)])
            self.asks({(2, lane): ((5, 7, 0, 0),)}, [(7, 2, lane, 7, lane)])
        for lane in (0, 1):
            self.asks({(0, lane): ((5, 12, 0, 0),)}, [(12, 0, lane, 7, lane)])

    def test_the_order_of_the_rule(self):
        told = {
            (0, 0): ((5, 0, 0, 0),), (0, 1): ((5, 1, 0, 0),),
            (1, 0): ((5, 2, 0, 0),),
            (2, 0): ((5, 6, 0, 0),), (2, 1): ((5, 5, 0, 0),), (2, 2): ((5, 4, 0, 0),),
            (7, 1): ((1, 11, 0, 0),),
        }
        self.asks(told, [
            (6, 2, 0, 4, 0), (5, 2, 1, 3, 1), (4, 2, 2, 3, 1),
            (0, 0, 0, 3, 0), (1, 0, 1, 4, 0),
            (11, 7, 1, 3, 1),
            (2, 1, 0, 3, 0),
        ])

    def test_by_index_where_there_are_lights(self):
        told = {
            (0, 1): ((5, 1, 0, 0),),
            (1, 0): ((5, 2, 0, 0),),
            (2, 0): ((5, 6, 0, 0),), (2, 2): ((5, 4, 0, 0),),
            (7, 1): ((1, 11, 0, 0),),
        }
        for time in (0, 3, 5):
            self.asks(told, [
                (1, 0, 1, 4, 0),
                (2, 1, 0, 3, 0),
                (6, 2, 0, 4, 0), (4, 2, 2, 3, 1),
                (11, 7, 1, 3, 1),
            ], LIGHTS, time)

    def test_by_crossing(self):
        told = {
            (1, 0): ((5, 2, 0, 0),),
            (3, 0): ((7, 8, 0, 0),),
            (5, 0): ((3, 9, 0, 0),), (5, 1): ((3, 15, 0, 0),),
            (7, 0): ((1, 11, 0, 0),),
        }
        for time in (0, 2, 3):
            self.asks(told, [
                (11, 7, 0, 3, 0), (2, 1, 0, 3, 0),
                (8, 3, 0, 6, 0), (9, 5, 0, 6, 0), (15, 5, 1, 6, 0),
            ], ORDERED, time)

    def test_of_all_crossings_the_least_first(self):
        # Road 0 ends at crossing 1, and road 1 at crossing 0.
        net = (((1, 3, 1, 1), (1, 3, 1, 0)), ((("order", (1,)), (0,)), (("order", (0,)), (1,))))
        cars = ((0, (0, 1)), (0, (1, 0)))
        check_net(net)
        rows = ((((2, 0, 0, 0),),), (((2, 1, 0, 0),),))
        self.assertEqual(asking(net, cars, 0, rows), [(1, 1, 0, 0, 0), (0, 0, 0, 1, 0)])
        self.assertEqual(let_through(net, cars, 0, rows), ([(1, 1, 0, 0, 0), (0, 0, 0, 1, 0)], []))

    def test_who_is_held_asks_too(self):
        self.asks({(3, 0): ((7, 8, 0, 0),), (6, 0): ((0, 0, 0, 2),)}, [(8, 3, 0, 6, 0)], ORDERED, 3)


class LightTest(CrossingTest):
    def test_green_and_red(self):
        told = {(5, 0): ((3, 9, 0, 0),)}
        for time in range(12):
            if time % 4 == 2:
                self.lets(told, [9], [], ORDERED, time)
            else:
                self.lets(told, [], [(9, ("light", 1))], ORDERED, time)

    def test_each_road_has_its_own(self):
        told = {(3, 0): ((7, 8, 0, 0),), (5, 0): ((3, 9, 0, 0),)}
        self.lets(told, [8], [(9, ("light", 1))], ORDERED, 0)
        self.lets(told, [8], [(9, ("light", 1))], ORDERED, 1)
        self.lets(told, [8], [(9, ("lane", 8))], ORDERED, 2)
        self.lets(told, [], [(8, ("light", 1)), (9, ("light", 1))], ORDERED, 3)

    def test_the_crossing_is_told(self):
        self.lets({(0, 0): ((5, 0, 0, 0),)}, [], [(0, ("light", 0))], LIGHTS, 3)
        self.lets({(3, 0): ((7, 8, 0, 0),)}, [], [(8, ("light", 1))], LIGHTS, 3)

    def test_all_lanes_of_a_road(self):
        told = {(2, lane): ((5, 5 + lane, 0, 0),) for lane in range(3)}
        self.lets(told, [], [(5, ("light", 0)), (6, ("light", 0)), (7, ("light", 0))], LIGHTS, 5)
        self.lets(told, [5, 6, 7], [], LIGHTS, 4)

    def test_the_light_comes_before_a_full_lane(self):
        told = {(0, 0): ((5, 0, 0, 0),), (3, 0): ((0, 8, 0, 0),)}
        self.lets(told, [], [(0, ("light", 0))], LIGHTS, 3)
        self.lets(told, [], [(0, ("full", 8))], LIGHTS, 2)

    def test_who_has_red_takes_no_lane(self):
        told = {(0, 0): ((5, 0, 0, 0),), (1, 0): ((5, 2, 0, 0),)}
        self.lets(told, [0], [(2, ("lane", 0))], LIGHTS, 2)
        self.lets(told, [2], [(0, ("light", 0))], LIGHTS, 3)


class FullTest(CrossingTest):
    def test_the_car_in_the_first_cell(self):
        told = {(1, 0): ((5, 2, 5, 0),), (3, 0): ((0, 8, 0, 0),)}
        self.lets(told, [], [(2, ("full", 8))])
        self.lets({(1, 0): ((5, 2, 5, 0),), (3, 0): ((1, 8, 0, 0),)}, [2], [])

    def test_the_lane_that_is_entered(self):
        self.lets({(1, 0): ((5, 2, 5, 0),), (3, 1): ((0, 8, 0, 0),)}, [2], [])
        self.lets({(2, 1): ((5, 4, 5, 0),), (3, 1): ((0, 8, 0, 0),)}, [], [(4, ("full", 8))])
        self.lets({(2, 2): ((5, 4, 5, 0),), (3, 1): ((0, 8, 0, 0),)}, [], [(4, ("full", 8))])
        self.lets({(2, 0): ((5, 4, 5, 0),), (3, 1): ((0, 8, 0, 0),)}, [4], [])

    def test_the_first_car_and_not_the_front_car(self):
        self.lets({(1, 0): ((5, 3, 0, 0),), (4, 0): ((0, 1, 0, 1), (7, 10, 0, 0))}, [], [(3, ("full", 1))])

    def test_it_may_go_on_itself(self):
        # The first cell is full also where the car in it goes away in the same step.
        self.lets({(1, 0): ((5, 3, 0, 0),), (4, 0): ((0, 10, 5, 0),)}, [], [(3, ("full", 10))])
        self.lets({(0, 0): ((5, 0, 0, 0),), (2, 0): ((5, 4, 0, 0),), (3, 0): ((0, 8, 5, 0),)}, [], [
            (4, ("full", 8)), (0, ("full", 8)),
        ])

    def test_a_road_that_leads_to_itself(self):
        self.lets({(7, 0): ((0, 11, 0, 0), (1, 7, 0, 1))}, [], [(7, ("full", 11))])
        self.lets({(7, 0): ((1, 7, 0, 1),)}, [7], [])

    def test_a_full_lane_comes_before_the_right_of_way(self):
        told = {(2, 1): ((5, 4, 0, 0),), (0, 0): ((5, 0, 0, 0),), (3, 0): ((0, 8, 0, 0),)}
        self.lets(told, [4], [(0, ("full", 8))])

    def test_a_full_lane_comes_before_that_of_another_car(self):
        told = {(0, 0): ((5, 0, 0, 0),), (1, 0): ((5, 2, 0, 0),), (3, 0): ((0, 8, 0, 0),)}
        self.lets(told, [], [(0, ("full", 8)), (2, ("full", 8))], LIGHTS)


class RightTest(CrossingTest):
    def test_into_the_same_road(self):
        told = {(2, 0): ((5, 4, 0, 0),), (0, 0): ((5, 0, 0, 0),)}
        self.lets(told, [4], [(0, ("right", 4))])

    def test_in_whatever_lane(self):
        self.lets({(2, 1): ((5, 4, 0, 0),), (0, 0): ((5, 0, 0, 0),)}, [4], [(0, ("right", 4))])
        self.lets({(2, 0): ((5, 4, 0, 0),), (0, 1): ((5, 0, 0, 0),)}, [4], [(0, ("right", 4))])

    def test_into_other_roads(self):
        self.lets({(2, 0): ((5, 4, 0, 0),), (0, 0): ((5, 1, 0, 0),)}, [4, 1], [])
        self.lets({(2, 0): ((5, 6, 0, 0),), (0, 0): ((5, 0, 0, 0),), (1, 0): ((5, 16, 0, 0),)}, [6, 0, 16], [])

    def test_by_the_order_and_not_by_index(self):
        self.lets({(7, 0): ((1, 11, 0, 0),), (1, 0): ((5, 2, 0, 0),)}, [11], [(2, ("right", 11))])
        self.lets({(0, 0): ((5, 0, 0, 0),), (7, 1): ((1, 11, 0, 0),)}, [0], [(11, ("right", 0))])

    def test_the_first_one_is_told(self):
        told = {
            (2, 1): ((5, 4, 0, 0),), (2, 2): ((5, 5, 0, 0),),
            (0, 0): ((5, 0, 0, 0),), (7, 0): ((1, 11, 0, 0),), (1, 0): ((5, 2, 0, 0),),
        }
        self.lets(told, [4], [
            (5, ("lane", 4)), (0, ("right", 4)), (11, ("right", 4)), (2, ("right", 4)),
        ])
        told[(2, 1)], told[(2, 2)] = told[(2, 2)], told[(2, 1)]
        self.lets(told, [5], [
            (4, ("lane", 5)), (0, ("right", 5)), (11, ("right", 5)), (2, ("right", 5)),
        ])

    def test_cars_of_one_road_have_it_over_none_of_theirs(self):
        self.lets({(2, 0): ((5, 4, 0, 0),), (2, 1): ((5, 5, 0, 0),)}, [4, 5], [])
        self.lets({(2, lane): ((5, car, 0, 0),) for lane, car in ((0, 4), (2, 5))}, [4, 5], [])

    def test_a_car_before_a_full_lane_has_it_not(self):
        told = {(2, 1): ((5, 4, 0, 0),), (0, 0): ((5, 0, 0, 0),), (3, 1): ((0, 8, 0, 0),)}
        self.lets(told, [0], [(4, ("full", 8))])

    def test_the_first_one_that_is_before_no_full_lane(self):
        told = {
            (2, 0): ((5, 4, 0, 0),), (2, 1): ((5, 5, 0, 0),), (0, 1): ((5, 0, 0, 0),), (3, 0): ((0, 8, 0, 0),),
        }
        self.lets(told, [5], [(4, ("full", 8)), (0, ("right", 5))])
        told = {
            (2, 0): ((5, 4, 0, 0),), (0, 1): ((5, 0, 0, 0),), (7, 1): ((1, 11, 0, 0),), (1, 0): ((5, 2, 0, 0),),
            (3, 0): ((0, 8, 0, 0),),
        }
        self.lets(told, [0], [(4, ("full", 8)), (11, ("right", 0)), (2, ("full", 8))])

    def test_none_has_it_if_all_before_are_before_full_lanes(self):
        told = {
            (2, 0): ((5, 4, 0, 0),), (0, 0): ((5, 0, 0, 0),), (7, 1): ((1, 11, 0, 0),), (3, 0): ((0, 8, 0, 0),),
        }
        self.lets(told, [11], [(4, ("full", 8)), (0, ("full", 8))])

    def test_who_does_not_ask_has_it_not(self):
        self.lets({(2, 0): ((4, 4, 0, 0),), (0, 0): ((5, 0, 0, 0),)}, [0], [])
        self.lets({(0, 1): ((5, 14, 5, 0),), (1, 0): ((5, 2, 0, 0),)}, [2], [])

    def test_not_where_there_are_lights(self):
        self.lets({(2, 1): ((5, 4, 0, 0),), (0, 0): ((5, 0, 0, 0),)}, [0, 4], [], LIGHTS)

    def test_it_comes_before_the_lane_of_another_car(self):
        # Car 0 and car 4 want the same lane.
        self.lets({(2, 0): ((5, 4, 0, 0),), (0, 0): ((5, 0, 0, 0),)}, [4], [(0, ("right", 4))])
        # Cars 5 and 0 want the same lane, but car 4 is the first to have the right of way.
        told = {(2, 0): ((5, 4, 0, 0),), (2, 1): ((5, 5, 0, 0),), (0, 1): ((5, 0, 0, 0),)}
        self.lets(told, [4, 5], [(0, ("right", 4))])

    def test_a_right_of_way_at_each_crossing(self):
        net = (
            ((1, 2, 1, 0), (1, 2, 1, 0), (1, 2, 1, -1), (1, 2, 1, 1), (1, 2, 1, 1), (1, 2, 1, -1)),
            ((("order", (1, 0)), (2,)), (("order", (3, 4)), (5,))),
        )
        cars = ((0, (0, 2)), (0, (1, 2)), (0, (3, 5)), (0, (4, 5)))
        check_net(net)
        check_cars(net, cars)
        rows = rows_with(net, {(road, 0): ((1, car, 0, 0),) for road, car in ((0, 0), (1, 1), (3, 2), (4, 3))})
        self.assertEqual(let_through(net, cars, 0, rows), (
            [(1, 1, 0, 2, 0), (2, 3, 0, 5, 0)], [(0, ("right", 1)), (3, ("right", 2))],
        ))


class LaneTest(CrossingTest):
    def test_from_several_roads_with_green(self):
        told = {(0, 0): ((5, 0, 0, 0),), (1, 0): ((5, 2, 0, 0),), (2, 0): ((5, 4, 0, 0),)}
        self.lets(told, [0], [(2, ("lane", 0)), (4, ("lane", 0))], LIGHTS)

    def test_from_several_lanes_of_a_road(self):
        told = {(2, lane): ((5, car, 0, 0),) for lane, car in ((0, 4), (1, 6), (2, 5))}
        self.lets(told, [4, 6, 5], [])
        told = {(2, lane): ((5, car, 0, 0),) for lane, car in ((0, 7), (1, 4), (2, 5))}
        self.lets(told, [7, 4], [(5, ("lane", 4))])
        self.lets(told, [7, 4], [(5, ("lane", 4))], LIGHTS)

    def test_several_lanes_into_one(self):
        told = {(0, 1): ((5, 1, 0, 0),), (1, 0): ((5, 3, 0, 0),), (2, 2): ((5, 6, 0, 0),)}
        self.lets(told, [1], [(3, ("lane", 1)), (6, ("lane", 1))], LIGHTS)
        self.lets(told, [6], [(1, ("right", 6)), (3, ("right", 6))])

    def test_other_lanes_of_the_same_road(self):
        told = {(0, 0): ((5, 0, 0, 0),), (2, 1): ((5, 4, 0, 0),), (7, 0): ((1, 11, 0, 0),)}
        self.lets(told, [0, 4], [(11, ("lane", 0))], LIGHTS)

    def test_the_same_lane_of_other_roads(self):
        told = {(0, 0): ((5, 0, 0, 0),), (1, 0): ((5, 3, 0, 0),), (2, 0): ((5, 7, 0, 0),)}
        self.lets(told, [0, 3, 7], [], LIGHTS)

    def test_who_was_not_let_through_is_told_by_nobody(self):
        # Car 1 has taken the lane before car 3, and car 3 never did before car 6.
        told = {(0, 1): ((5, 1, 0, 0),), (1, 0): ((5, 3, 0, 0),), (2, 0): ((5, 6, 0, 0),)}
        self.lets(told, [1], [(3, ("lane", 1)), (6, ("lane", 1))], LIGHTS)
        # Car 1 has red.
        self.lets(told, [3], [(1, ("light", 0)), (6, ("lane", 3))], LIGHTS, 3)

    def test_at_one_crossing_it_is_nothing_to_another(self):
        told = {(1, 0): ((5, 2, 0, 0),), (3, 0): ((7, 8, 0, 0),), (5, 1): ((3, 9, 0, 0),)}
        self.lets(told, [2, 8], [(9, ("lane", 8))], ORDERED, 2)


class LetThroughTest(CrossingTest):
    def test_nobody_asks(self):
        self.lets({}, [], [])
        self.lets({(0, 0): ((0, 0, 0, 0),), (4, 0): ((7, 10, 0, 0),)}, [], [])

    def test_both_lists_are_in_the_order_of_those_that_ask(self):
        told = {
            (0, 0): ((5, 0, 0, 0),), (0, 1): ((5, 1, 0, 0),),
            (1, 0): ((5, 3, 0, 0),),
            (2, 0): ((5, 7, 0, 0),), (2, 2): ((5, 4, 0, 0),),
            (3, 1): ((7, 8, 0, 0),), (5, 0): ((3, 9, 0, 0),), (5, 1): ((3, 15, 0, 0),),
            (7, 2): ((1, 11, 0, 0),),
        }
        rows = rows_with(ORDERED, told)
        self.assertEqual(let_through(ORDERED, CARS, 0, rows), (
            [(7, 2, 0, 7, 0), (4, 2, 2, 3, 1), (1, 0, 1, 4, 0), (8, 3, 1, 6, 0)],
            [
                (0, ("right", 4)), (11, ("right", 4)), (3, ("right", 1)),
                (9, ("light", 1)), (15, ("light", 1)),
            ],
        ))
        self.assertEqual(let_through(LIGHTS, CARS, 2, rows), (
            [(0, 0, 0, 3, 0), (1, 0, 1, 4, 0), (7, 2, 0, 7, 0), (4, 2, 2, 3, 1), (8, 3, 1, 6, 0)],
            [(3, ("lane", 1)), (11, ("lane", 4)), (9, ("lane", 8)), (15, ("lane", 8))],
        ))

    def test_each_car_that_asks_is_in_one_list(self):
        told = {(2, lane): ((5, car, 0, 0),) for lane, car in ((0, 7), (1, 4), (2, 5))}
        told[(0, 0)] = ((5, 0, 0, 0),)
        told[(3, 1)] = ((0, 8, 0, 0), (7, 13, 0, 0))
        self.lets(told, [7, 0], [(4, ("full", 8)), (5, ("full", 8))])

    def test_the_values_are_a_pair_of_lists_of_tuples(self):
        answer = let_through(ORDERED, CARS, 0, rows_with(ORDERED, {(2, 0): ((5, 4, 0, 0),), (0, 0): ((5, 0, 0, 0),)}))
        self.assertIs(type(answer), tuple)
        for told in answer:
            self.assertIs(type(told), list)
            self.assertIs(type(told[0]), tuple)
        self.assertIs(type(answer[1][0][1]), tuple)

    def test_in_a_town(self):
        # Car 5 at the end of road 1 has red at the time 3, and green at the time 4.
        rows = TOWN_STATE[1]
        self.assertEqual(asking(TOWN, TOWN_CARS, 3, rows), [(5, 1, 0, 3, 0)])
        self.assertEqual(let_through(TOWN, TOWN_CARS, 3, rows), ([], [(5, ("light", 0))]))
        self.assertEqual(let_through(TOWN, TOWN_CARS, 4, rows), ([(5, 1, 0, 3, 0)], []))

    def test_the_rows_are_taken_as_they_are(self):
        # Car 6 would change to the lane 1 or to the lane 0 before it asks, but these rows are behind that.
        told = {(2, 1): ((4, 6, 0, 0), (5, 5, 0, 0)), (3, 1): ((0, 8, 0, 0),)}
        for time in (0, 1):
            self.lets(told, [], [(5, ("full", 8))], ORDERED, time)


class LeavingTest(CrossingTest):
    """Who leaves the net instead of asking, and that it needs nobody to let it."""

    def test_it_leaves_where_nobody_lets_it(self):
        # Road 3 ends at a crossing with a red light, road 0 at one where road 2 has the right of way.
        rows = rows_with(ORDERED, {
            (3, 0): ((7, 13, 0, 0),), (0, 0): ((5, 14, 0, 0),), (2, 0): ((5, 4, 0, 0),), (4, 0): ((7, 1, 0, 1),),
        })
        check_state(ORDERED, CARS, (3, rows, ()))
        self.assertEqual(step(ORDERED, CARS, (3, rows, ()))[2], ((1, 4), (13, 4), (14, 4)))

    def test_what_it_wants_is_greater_than_the_room(self):
        for speed in range(6):
            for ahead in range(6):
                state = (7, rows_with(ORDERED, {(4, 0): ((7 - ahead, 10, speed, 0),)}), ())
                left = step(ORDERED, CARS[:11], state)[2]
                self.assertEqual(left, ((10, 8),) if min(speed + 1, 5) > ahead else ())

    def test_only_the_front_car(self):
        state = (7, rows_with(ORDERED, {(4, 0): ((6, 10, 5, 0), (7, 1, 0, 1))}), ())
        self.assertEqual(step(ORDERED, CARS, state)[2], ((1, 8),))

    def test_not_where_the_road_stands_again_in_its_way(self):
        # Car 7 is on road 7 for the first, then for the second time, and then goes on to road 3.
        for leg in (1, 2):
            state = (7, rows_with(ORDERED, {(7, 0): ((1, 7, 0, leg),)}), ())
            self.assertEqual(step(ORDERED, CARS[:8], state)[2], ())


if __name__ == "__main__":
    unittest.main()
