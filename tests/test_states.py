"""[6], [7]: beginning, check_state, place, room and outside."""

import unittest

from carfax.errors import BadState
from carfax.nets import check_cars, check_net
from carfax.states import beginning, check_state, outside, place, room
from tests.samples import (
    DEEP, GREATEST, LEAST, TOWN, TOWN_CARS, TOWN_STATE, lists_for_tuples, put, spoiled, spots,
)

# Road 0 with two lanes leads to road 1 with one, and that back to road 0; road 2 stands alone.
NET = (
    ((2, 8, 2, 0), (1, 4, 3, 1), (3, 20, 1, -1)),
    ((("order", (0,)), (1,)), (("order", (1,)), (0,))),
)

CARS = (
    (0, (0, 1, 0, 1)),
    (5, (0, 1)),
    (50, (1, 0)),
    (9, (2,)),
    (0, (1,)),
)


def standing(time=10, one=(), two=(), other=(), alone=((), (), ()), arrived=()):
    """A state of NET: the lanes of road 0, that of road 1, those of road 2, and who arrived."""
    return (time, ((one, two), (other,), alone), arrived)


class BeginningTest(unittest.TestCase):
    def test_nobody_is_there(self):
        self.assertEqual(beginning(LEAST), (0, (((),),), ()))
        self.assertEqual(beginning(NET), (0, (((), ()), ((),), ((), (), ())), ()))
        self.assertEqual(beginning(TOWN), (0, (((), ()), ((),), ((), (), ()), ((),), ((), ()), ((),)), ()))
        self.assertEqual(beginning(GREATEST), (0, (((), (), ()),) * 12, ()))

    def test_it_is_of_tuples_and_an_integer(self):
        time, rows, arrived = state = beginning(TOWN)
        self.assertIs(type(state), tuple)
        self.assertIs(type(time), int)
        for told in (rows, arrived) + rows + tuple(row for lanes in rows for row in lanes):
            self.assertIs(type(told), tuple)

    def test_it_is_sound(self):
        for net, cars in ((LEAST, ()), (LEAST, ((0, (0,)),)), (TOWN, TOWN_CARS), (NET, CARS), (GREATEST, ())):
            self.assertIsNone(check_state(net, cars, beginning(net)))

    def test_all_cars_are_outside(self):
        self.assertEqual(outside(CARS, beginning(NET)), [0, 1, 2, 3, 4])


class CheckStateTest(unittest.TestCase):
    def good(self, value, cars=CARS, net=NET):
        self.assertIsNone(check_state(net, cars, value))

    def bad(self, value, cars=CARS, net=NET):
        with self.assertRaises(BadState):
            check_state(net, cars, value)

    def test_the_samples_are_nets_and_cars(self):
        check_net(NET)
        check_cars(NET, CARS)

    def test_sound_states(self):
        self.good(TOWN_STATE, TOWN_CARS, TOWN)
        self.good(standing())
        self.good(standing(0))
        self.good(standing(one=((0, 0, 0, 0), (1, 1, 0, 0)), other=((3, 2, 3, 0),), arrived=((3, 10), (4, 0))))

    def test_values_of_other_kinds(self):
        for value in (None, True, False, 0, 1, "", "abc", (), [], NET, CARS, (10,), (10, ()), DEEP):
            self.bad(value)

    def test_the_tuple_of_a_state(self):
        state = standing()
        self.bad(state[:2])
        self.bad(state + ((),))
        self.bad(state + (None,))
        self.bad((state[1], state[0], state[2]))
        self.bad((state[0], state[2], state[1]))

    def test_all_lists_for_tuples(self):
        self.bad(lists_for_tuples(TOWN_STATE), TOWN_CARS, TOWN)
        for path, node in spots(TOWN_STATE):
            if isinstance(node, tuple):
                with self.subTest(path=path):
                    self.bad(put(TOWN_STATE, path, list(node)), TOWN_CARS, TOWN)

    def test_strangers_in_any_place(self):
        for path, at, wrong in spoiled(TOWN_STATE):
            with self.subTest(path=path, stranger=at):
                self.bad(wrong, TOWN_CARS, TOWN)

    def test_true_and_false_are_no_integers(self):
        self.good(standing(1, other=((1, 0, 1, 1),), arrived=((1, 1),)))
        for path in ((0,), (1, 1, 0, 0, 0), (1, 1, 0, 0, 2), (1, 1, 0, 0, 3), (2, 0, 0), (2, 0, 1)):
            self.bad(put(standing(1, other=((1, 0, 1, 1),), arrived=((1, 1),)), path, True))
        self.bad(standing(1, other=((1, True, 1, 1),)))
        for path in ((0,), (1, 0, 0, 0, 0), (1, 0, 0, 0, 1), (1, 0, 0, 0, 2), (1, 0, 0, 0, 3)):
            self.bad(put(standing(0, one=((0, 0, 0, 0),)), path, False))

    def test_times(self):
        for time in (0, 1, 50, 999999, 1000000):
            self.good(standing(time))
        for time in (-1000000, -2, -1, 1000001, 1000002, 10 ** 30):
            self.bad(standing(time))

    def test_number_of_roads(self):
        rows = standing()[1]
        self.bad((0, (), ()))
        self.bad((0, rows[:2], ()))
        self.bad((0, rows[1:], ()))
        self.bad((0, rows + ((),), ()))
        self.bad((0, rows + (((),),), ()))

    def test_number_of_lanes(self):
        rows = standing()[1]
        for road in range(3):
            many = NET[0][road][0]
            for lanes in (0, many - 1, many + 1, 4):
                with self.subTest(road=road, lanes=lanes):
                    self.bad((0, rows[:road] + (((),) * lanes,) + rows[road + 1:], ()))

    def test_the_rows_are_of_the_net(self):
        state = beginning(TOWN)
        self.good(state, TOWN_CARS, TOWN)
        self.bad(state)
        self.bad(beginning(NET), TOWN_CARS, TOWN)
        self.bad(beginning(LEAST))

    def test_the_tuple_of_a_car(self):
        for told in ((), (0,), (0, 0), (0, 0, 0), (0, 0, 0, 0, 0), (0, 0, 0, 0, None), ((0, 0, 0, 0),), 0):
            self.bad(standing(one=(told,)))
            self.bad(standing(two=((1, 1, 0, 0), told)))

    def test_cells(self):
        for cell in (0, 1, 6, 7):
            self.good(standing(one=((cell, 0, 0, 0),)))
            self.good(standing(two=((cell, 0, 0, 0),)))
        for cell in (-8, -2, -1, 8, 9, 10 ** 30):
            self.bad(standing(one=((cell, 0, 0, 0),)))
            self.bad(standing(two=((cell, 0, 0, 0),)))

    def test_cells_of_each_road(self):
        self.good(standing(other=((3, 0, 0, 1),)))
        self.bad(standing(other=((4, 0, 0, 1),)))
        self.bad(standing(other=((7, 0, 0, 1),)))
        self.good(standing(alone=((), ((19, 3, 0, 0),), ())))
        self.bad(standing(alone=((), ((20, 3, 0, 0),), ())))

    def test_cells_are_ascending(self):
        self.good(standing(one=((2, 0, 0, 0), (3, 1, 0, 0), (7, 2, 0, 1))))
        self.good(standing(one=((2, 2, 0, 1), (3, 1, 0, 0), (7, 0, 0, 2))))
        self.bad(standing(one=((3, 0, 0, 0), (2, 1, 0, 0))))
        self.bad(standing(one=((2, 0, 0, 0), (7, 1, 0, 0), (3, 2, 0, 1))))
        self.bad(standing(two=((3, 0, 0, 0), (2, 1, 0, 0), (7, 2, 0, 1))))

    def test_no_two_cars_of_a_lane_have_one_cell(self):
        self.bad(standing(one=((2, 0, 0, 0), (2, 1, 0, 0))))
        self.bad(standing(one=((2, 1, 0, 0), (2, 0, 0, 0))))
        self.bad(standing(one=((1, 0, 0, 0), (2, 1, 0, 0), (2, 2, 0, 1))))

    def test_cars_of_two_lanes_may_have_one_cell(self):
        self.good(standing(one=((2, 0, 0, 0),), two=((2, 1, 0, 0),), other=((2, 2, 0, 0),)))
        self.good(standing(one=((5, 0, 0, 0),), two=((1, 1, 0, 0),)))

    def test_speeds(self):
        for speed in range(6):
            self.good(standing(one=((0, 0, speed, 0),)))
            self.good(standing(alone=((), (), ((4, 3, speed, 0),))))
        for speed in (-5, -1, 6, 7, 10 ** 30):
            self.bad(standing(one=((0, 0, speed, 0),)))
            self.bad(standing(alone=((), (), ((4, 3, speed, 0),))))

    def test_legs(self):
        self.good(standing(one=((0, 0, 0, 0),)))
        self.good(standing(one=((0, 0, 0, 2),)))
        self.good(standing(other=((0, 0, 0, 1),)))
        self.good(standing(other=((0, 0, 0, 3),)))
        for leg in (-4, -3, -2, -1, 4, 5, 10 ** 30):
            self.bad(standing(one=((0, 0, 0, leg),)))
            self.bad(standing(other=((0, 0, 0, leg),)))

    def test_legs_of_each_car(self):
        self.good(standing(one=((0, 2, 0, 1),)))
        self.bad(standing(one=((0, 1, 0, 2),)))
        self.bad(standing(other=((0, 4, 0, 1),)))
        self.bad(standing(other=((0, 4, 0, -1),)))

    def test_a_car_is_on_the_road_of_its_leg(self):
        for leg in (1, 3):
            self.bad(standing(one=((0, 0, 0, leg),)))
            self.bad(standing(two=((0, 0, 0, leg),)))
        for leg in (0, 2):
            self.bad(standing(other=((0, 0, 0, leg),)))
        for car in (0, 1, 2, 4):
            for lane in range(3):
                self.bad(standing(alone=((),) * lane + (((0, car, 0, 0),),) + ((),) * (2 - lane)))
        self.bad(standing(one=((0, 3, 0, 0),)))
        self.bad(standing(other=((0, 3, 0, 0),)))

    def test_cars_that_there_are_not(self):
        for car in (-5, -3, -1, 5, 6, 10 ** 30):
            self.bad(standing(one=((0, car, 0, 0),)))
            self.bad(standing(other=((0, car, 0, 0),)))
            self.bad(standing(arrived=((car, 3),)))
        self.bad(standing(one=((0, 0, 0, 0),)), ())
        self.bad(standing(arrived=((0, 0),)), ())
        self.good(standing(), ())

    def test_a_car_is_in_one_place(self):
        self.good(standing(one=((0, 0, 0, 0),)))
        self.bad(standing(one=((0, 0, 0, 0), (1, 0, 0, 0))))
        self.bad(standing(one=((0, 0, 0, 0), (1, 0, 0, 2))))
        self.bad(standing(one=((0, 0, 0, 0), (1, 1, 0, 0), (2, 0, 0, 0))))
        self.bad(standing(one=((0, 0, 0, 0),), two=((0, 0, 0, 0),)))
        self.bad(standing(one=((0, 0, 0, 0),), two=((5, 0, 0, 2),)))
        self.bad(standing(one=((0, 0, 0, 0),), other=((1, 0, 0, 1),)))
        self.bad(standing(two=((0, 2, 0, 1),), other=((1, 2, 0, 0),)))
        self.bad(standing(alone=(((1, 3, 0, 0),), (), ((2, 3, 0, 0),))))

    def test_no_arrived_car_is_on_a_road(self):
        self.bad(standing(one=((0, 0, 0, 0),), arrived=((0, 5),)))
        self.bad(standing(other=((0, 4, 0, 0),), arrived=((3, 5), (4, 5))))
        self.bad(standing(alone=((), (), ((19, 3, 0, 0),)), arrived=((3, 10),)))
        self.good(standing(one=((0, 0, 0, 0),), arrived=((1, 5), (4, 5))))

    def test_arrived_is_ascending(self):
        self.good(standing(arrived=((0, 3), (1, 3), (2, 3))))
        self.good(standing(arrived=((0, 9), (1, 3), (4, 1))))
        self.bad(standing(arrived=((1, 3), (0, 3))))
        self.bad(standing(arrived=((1, 3), (0, 5))))
        self.bad(standing(arrived=((0, 3), (2, 3), (1, 3))))

    def test_a_car_arrives_once(self):
        self.bad(standing(arrived=((0, 3), (0, 3))))
        self.bad(standing(arrived=((0, 3), (0, 4))))
        self.bad(standing(arrived=((0, 4), (0, 3))))
        self.bad(standing(arrived=((0, 1), (3, 3), (3, 4))))

    def test_the_pair_of_an_arrived_car(self):
        for told in ((), (0,), (0, 3, 0), (0, 3, None), [0, 3], 0, ((0, 3),), "03"):
            self.bad(standing(arrived=(told,)))
            self.bad(standing(arrived=((0, 1), told)))
        self.bad(standing(arrived=(0, 3)))

    def test_times_of_arrival(self):
        for time in (0, 1, 9, 10):
            self.good(standing(10, arrived=((0, time),)))
            self.good(standing(10, arrived=((0, 4), (1, time))))
        for time in (-10, -1, 11, 12, 10 ** 30):
            self.bad(standing(10, arrived=((0, time),)))
            self.bad(standing(10, arrived=((0, 4), (1, time))))
            self.bad(standing(10, arrived=((0, time), (1, 4))))
        self.good(standing(0, arrived=((0, 0),)))
        self.bad(standing(0, arrived=((0, 1),)))
        self.good(standing(1000000, arrived=((0, 1000000),)))

    def test_any_car_may_be_on_its_way_at_any_time(self):
        self.good(standing(0, other=((1, 2, 4, 0),)))
        self.good(standing(0, one=((1, 2, 4, 1),), arrived=((1, 0), (3, 0))))

    def test_full_lanes(self):
        cars = ((0, (0,)),) * 21
        net = (((1, 20, 1, -1), (1, 2, 1, -1)), ())
        row = tuple((cell, 20 - cell, 0, 0) for cell in range(20))
        self.good((0, ((row,), ((),)), ()), cars, net)
        self.good((0, ((row,), ((),)), ((0, 0),)), cars, net)
        self.bad((0, ((row,), ((),)), ((1, 0),)), cars, net)
        self.bad((0, ((row + ((20, 0, 0, 0),),), ((),)), ()), cars, net)

    def test_all_cars_have_arrived(self):
        cars = ((0, (0,)),) * 30
        arrived = tuple((car, 7) for car in range(30))
        self.good((7, (((),),), arrived), cars, LEAST)
        self.bad((7, (((),),), arrived + ((30, 7),)), cars, LEAST)


class PlaceTest(unittest.TestCase):
    def test_on_roads(self):
        for car, told in ((0, (2, 1, 9)), (2, (0, 0, 2)), (4, (2, 1, 3)), (5, (1, 0, 4)), (6, (4, 0, 0))):
            found = place(TOWN_STATE, car)
            self.assertEqual(found, told)
            self.assertIs(type(found), tuple)

    def test_outside(self):
        self.assertIsNone(place(TOWN_STATE, 1))
        self.assertIsNone(place(TOWN_STATE, 3))
        self.assertIsNone(place(beginning(LEAST), 0))

    def test_arrived(self):
        self.assertIsNone(place(TOWN_STATE, 7))
        self.assertIsNone(place(standing(arrived=((0, 5), (3, 4))), 3))
        self.assertIsNone(place(standing(arrived=((0, 5), (3, 4))), 0))

    def test_on_each_lane_and_cell(self):
        for lane in range(3):
            for cell in range(20):
                row = ((cell, 3, 5, 0),)
                state = standing(alone=((),) * lane + (row,) + ((),) * (2 - lane))
                self.assertEqual(place(state, 3), (2, lane, cell))
                self.assertIsNone(place(state, 0))
                self.assertIsNone(place(state, 5))

    def test_the_first_place_of_all(self):
        self.assertEqual(place((0, ((((0, 0, 0, 0),),),), ()), 0), (0, 0, 0))

    def test_the_car_tells_not_its_cell_speed_or_leg(self):
        state = standing(one=((1, 4, 2, 0), (4, 1, 0, 2)), other=((2, 0, 4, 1), (3, 2, 1, 0)))
        for car, told in ((4, (0, 0, 1)), (1, (0, 0, 4)), (0, (1, 0, 2)), (2, (1, 0, 3)), (3, None)):
            self.assertEqual(place(state, car), told)


class RoomTest(unittest.TestCase):
    def test_with_a_car_ahead(self):
        state = standing(one=((0, 0, 0, 0), (1, 1, 0, 0), (5, 2, 0, 1)))
        self.assertEqual(room(NET, state, 0, 0, 0), 0)
        self.assertEqual(room(NET, state, 0, 0, 1), 3)

    def test_up_to_the_end_of_the_lane(self):
        state = standing(one=((0, 0, 0, 0), (5, 2, 0, 1)), two=((7, 1, 0, 0),), other=((0, 4, 0, 0),))
        self.assertEqual(room(NET, state, 0, 0, 1), 2)
        self.assertEqual(room(NET, state, 0, 1, 0), 0)
        self.assertEqual(room(NET, state, 1, 0, 0), 3)

    def test_an_empty_lane_ahead(self):
        for road, cells in ((0, 8), (1, 4), (2, 20)):
            for cell in range(cells):
                lanes = [((),) * told[0] for told in NET[0]]
                lanes[road] = ((),) * (NET[0][road][0] - 1) + (((cell, 0, 5, 0),),)
                state = (3, tuple(lanes), ())
                self.assertEqual(room(NET, state, road, NET[0][road][0] - 1, 0), cells - 1 - cell)

    def test_each_pair_of_cells(self):
        for cell in range(8):
            for ahead in range(cell + 1, 8):
                state = standing(two=((cell, 1, 3, 0), (ahead, 0, 2, 0)))
                self.assertEqual(room(NET, state, 0, 1, 0), ahead - cell - 1)
                self.assertEqual(room(NET, state, 0, 1, 1), 7 - ahead)

    def test_cars_on_other_lanes_and_roads_play_no_part(self):
        state = standing(one=((0, 0, 0, 0),), two=((2, 1, 0, 0),), other=((1, 2, 0, 0),))
        self.assertEqual(room(NET, state, 0, 0, 0), 7)
        self.assertEqual(room(NET, state, 0, 1, 0), 5)
        self.assertEqual(room(NET, state, 1, 0, 0), 2)

    def test_in_a_full_lane(self):
        state = standing(other=((0, 0, 0, 1), (1, 1, 0, 1), (2, 2, 0, 0), (3, 4, 0, 0)))
        self.assertEqual([room(NET, state, 1, 0, at) for at in range(4)], [0, 0, 0, 0])

    def test_speed_and_limit_play_no_part(self):
        for speed in range(6):
            self.assertEqual(room(NET, standing(alone=((), ((4, 3, speed, 0),), ())), 2, 1, 0), 15)

    def test_in_a_town(self):
        self.assertEqual(room(TOWN, TOWN_STATE, 2, 1, 0), 5)
        self.assertEqual(room(TOWN, TOWN_STATE, 2, 1, 1), 10)
        self.assertEqual(room(TOWN, TOWN_STATE, 1, 0, 0), 0)
        self.assertEqual(room(TOWN, TOWN_STATE, 0, 0, 0), 7)
        self.assertEqual(room(TOWN, TOWN_STATE, 4, 0, 0), 6)


class OutsideTest(unittest.TestCase):
    def test_no_cars(self):
        self.assertEqual(outside((), beginning(NET)), [])

    def test_all_of_thirty(self):
        self.assertEqual(outside(((0, (0,)),) * 30, beginning(LEAST)), list(range(30)))

    def test_on_roads_and_arrived(self):
        self.assertEqual(outside(TOWN_CARS, TOWN_STATE), [1, 3])
        self.assertEqual(outside(CARS, standing(one=((0, 0, 0, 0),))), [1, 2, 3, 4])
        self.assertEqual(outside(CARS, standing(two=((0, 2, 0, 1), (1, 1, 0, 0)))), [0, 3, 4])
        self.assertEqual(outside(CARS, standing(other=((0, 4, 1, 0),), alone=((), (), ((3, 3, 1, 0),)))), [0, 1, 2])
        self.assertEqual(outside(CARS, standing(arrived=((0, 7),))), [1, 2, 3, 4])
        self.assertEqual(outside(CARS, standing(arrived=((2, 1), (3, 0)))), [0, 1, 4])

    def test_nobody_waits(self):
        state = standing(one=((3, 1, 0, 0),), other=((1, 2, 0, 0),), arrived=((0, 4), (3, 4), (4, 4)))
        self.assertEqual(outside(CARS, state), [])

    def test_the_time_plays_no_part(self):
        for time in (0, 4, 5, 49, 1000000):
            self.assertEqual(outside(CARS, standing(time, arrived=((1, 0),))), [0, 2, 3, 4])

    def test_a_list_of_its_own(self):
        found = outside(TOWN_CARS, TOWN_STATE)
        self.assertIs(type(found), list)
        found.clear()
        self.assertEqual(outside(TOWN_CARS, TOWN_STATE), [1, 3])


if __name__ == "__main__":
    unittest.main()
