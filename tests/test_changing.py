"""[8], [9]: changes of lane, by `changed` and by `step`."""

import unittest

from carfax.nets import check_cars, check_net
from carfax.states import check_state
from carfax.steps import changed, step
from tests.samples import TOWN, TOWN_CARS, TOWN_STATE, state_with

# Road 0 has three lanes, road 1 two and a low limit, road 2 one.
NET = (((3, 12, 5, -1), (2, 6, 2, -1), (1, 6, 5, -1)), ())
CARS = ((0, (0,)),) * 9 + ((0, (1,)),) * 4 + ((0, (2,)),) * 4


class ChangingTest(unittest.TestCase):
    def becomes(self, time, before, after):
        """Checks the lanes of road 0 behind the changes."""
        state = state_with(NET, time, {(0, lane): row for lane, row in enumerate(before)})
        check_state(NET, CARS, state)
        self.assertEqual(changed(NET, CARS, state), (after, ((), ()), ((),)))

    def stays(self, time, lanes):
        self.becomes(time, lanes, lanes)

    def test_the_samples_are_nets_and_cars(self):
        check_net(NET)
        check_cars(NET, CARS)

    def test_even_times_to_the_lesser_lane(self):
        blocked = ((3, 0, 1, 0), (4, 1, 0, 0))
        for time in (0, 2, 10, 1000000):
            self.becomes(time, ((), blocked, ()), (((3, 0, 1, 0),), ((4, 1, 0, 0),), ()))
            self.becomes(time, ((), (), blocked), ((), ((3, 0, 1, 0),), ((4, 1, 0, 0),)))
            self.stays(time, (blocked, (), ()))

    def test_odd_times_to_the_greater_lane(self):
        blocked = ((3, 0, 1, 0), (4, 1, 0, 0))
        for time in (1, 3, 11, 999999):
            self.becomes(time, (blocked, (), ()), (((4, 1, 0, 0),), ((3, 0, 1, 0),), ()))
            self.becomes(time, ((), blocked, ()), ((), ((4, 1, 0, 0),), ((3, 0, 1, 0),)))
            self.stays(time, ((), (), blocked))

    def test_a_road_with_one_lane(self):
        state = state_with(NET, 0, {(2, 0): ((0, 13, 4, 0), (1, 14, 0, 0), (3, 15, 5, 0))})
        for time in (0, 1):
            self.assertEqual(changed(NET, CARS, (time,) + state[1:]), state[1])

    def test_two_lanes(self):
        row = ((0, 9, 1, 0), (1, 10, 0, 0))
        for time, lane in ((0, 1), (1, 0)):
            found = changed(NET, CARS, state_with(NET, time, {(1, lane): row}))
            self.assertEqual(found[1][lane], ((1, 10, 0, 0),))
            self.assertEqual(found[1][1 - lane], ((0, 9, 1, 0),))
            state = state_with(NET, time, {(1, 1 - lane): row})
            self.assertEqual(changed(NET, CARS, state), state[1])

    def test_cell_speed_and_leg_are_kept(self):
        net = (((2, 9, 5, 0),), ((("order", (0,)), (0,)),))
        cars = ((0, (0, 0, 0)), (0, (0, 0)))
        found = changed(net, cars, state_with(net, 4, {(0, 1): ((2, 0, 5, 2), (4, 1, 3, 1))}))
        self.assertEqual(found, ((((2, 0, 5, 2),), ((4, 1, 3, 1),)),))

    def test_the_room_ahead_is_less_than_what_is_wanted(self):
        for speed in range(6):
            want = min(speed + 1, 5)
            for ahead in range(6):
                car, other = (2, 0, speed, 0), (3 + ahead, 1, 0, 0)
                if ahead < want:
                    self.becomes(0, ((), (car, other), ()), ((car,), (other,), ()))
                else:
                    self.stays(0, ((), (car, other), ()))

    def test_what_is_wanted_is_bounded_by_the_limit(self):
        for speed, ahead, leaves in ((5, 2, False), (5, 1, True), (2, 2, False), (1, 1, True), (0, 1, False)):
            state = state_with(NET, 1, {(1, 0): ((0, 9, speed, 0), (1 + ahead, 10, 0, 0))})
            found = changed(NET, CARS, state)
            self.assertEqual(found[1][1] == ((0, 9, speed, 0),), leaves)
            self.assertEqual(found == state[1], not leaves)

    def test_the_room_up_to_the_end_counts(self):
        # A front car near the end has less room than it wants, but no more beside.
        self.stays(0, ((), ((10, 0, 4, 0),), ()))
        self.stays(1, ((), ((11, 0, 0, 0),), ()))
        # Another one is beside the end of the lane.
        self.becomes(0, ((), ((9, 0, 4, 0), (10, 1, 0, 0)), ()), (((9, 0, 4, 0),), ((10, 1, 0, 0),), ()))

    def test_the_cell_beside_is_free(self):
        blocked = ((3, 0, 0, 0), (4, 1, 0, 0))
        self.stays(0, (((3, 2, 0, 0),), blocked, ()))
        self.stays(1, ((), blocked, ((3, 2, 0, 0),)))
        self.stays(0, (((1, 3, 0, 0), (3, 2, 0, 0), (9, 4, 0, 0)), blocked, ()))
        # The lane on the other side plays no part.
        self.becomes(
            0, ((), blocked, ((3, 2, 0, 0), (9, 3, 0, 0))),
            (((3, 0, 0, 0),), ((4, 1, 0, 0),), ((3, 2, 0, 0), (9, 3, 0, 0))),
        )

    def test_the_room_beside_is_greater(self):
        car = (2, 0, 4, 0)
        for ahead in range(5):
            for beside in range(7):
                other, next_one = (3 + ahead, 1, 0, 0), (3 + beside, 2, 0, 0)
                if beside > ahead:
                    self.becomes(0, ((next_one,), (car, other), ()), ((car, next_one), (other,), ()))
                else:
                    self.stays(0, ((next_one,), (car, other), ()))

    def test_the_room_beside_up_to_the_end(self):
        for cell in range(11):
            self.becomes(
                1, (((cell, 0, 4, 0), (cell + 1, 1, 0, 0)), (), ()),
                (((cell + 1, 1, 0, 0),), ((cell, 0, 4, 0),), ()),
            )

    def test_the_next_car_beside_counts_and_not_a_farther_one(self):
        car, other = (2, 0, 4, 0), (5, 1, 0, 0)
        self.stays(0, (((4, 2, 0, 0), (11, 3, 0, 0)), (car, other), ()))
        self.becomes(
            0, (((6, 2, 0, 0), (7, 3, 0, 0)), (car, other), ()),
            ((car, (6, 2, 0, 0), (7, 3, 0, 0)), (other,), ()),
        )

    def test_the_speed_of_the_next_car_behind(self):
        car, other = (8, 0, 0, 0), (9, 1, 0, 0)
        for speed in range(6):
            for free in range(7):
                behind = (7 - free, 2, speed, 0)
                if speed <= free:
                    self.becomes(0, ((behind,), (car, other), ()), ((behind, car), (other,), ()))
                else:
                    self.stays(0, ((behind,), (car, other), ()))

    def test_only_the_next_car_behind_counts(self):
        car, other = (8, 0, 0, 0), (9, 1, 0, 0)
        near, far = (6, 2, 1, 0), (5, 3, 5, 0)
        self.becomes(0, ((far, near), (car, other), ()), ((far, near, car), (other,), ()))
        near, far = (6, 2, 2, 0), (0, 3, 0, 0)
        self.stays(0, ((far, near), (car, other), ()))

    def test_the_limit_is_nothing_to_the_car_behind(self):
        # Its speed counts, not what it wants.
        state = state_with(NET, 1, {
            (1, 0): ((4, 9, 0, 0), (5, 10, 0, 0)), (1, 1): ((0, 11, 4, 0),),
        })
        self.assertEqual(changed(NET, CARS, state), state[1])
        state = state_with(NET, 1, {
            (1, 0): ((4, 9, 0, 0), (5, 10, 0, 0)), (1, 1): ((0, 11, 3, 0),),
        })
        self.assertEqual(changed(NET, CARS, state)[1], (((5, 10, 0, 0),), ((0, 11, 3, 0), (4, 9, 0, 0))))

    def test_cars_behind_on_other_lanes_play_no_part(self):
        self.becomes(
            0, ((), ((6, 2, 5, 0), (8, 0, 0, 0), (9, 1, 0, 0)), ((7, 3, 5, 0), (11, 4, 0, 0))),
            (((6, 2, 5, 0), (8, 0, 0, 0)), ((9, 1, 0, 0),), ((7, 3, 5, 0), (11, 4, 0, 0))),
        )

    def test_all_decide_at_once(self):
        # Cars 0 and 1 both see the lane 0 as it was, empty.
        self.becomes(
            0, ((), ((3, 0, 1, 0), (4, 1, 0, 0), (5, 2, 0, 0)), ()),
            (((3, 0, 1, 0), (4, 1, 0, 0)), ((5, 2, 0, 0),), ()),
        )

    def test_a_cell_that_becomes_free_was_not_free(self):
        # Car 2 stands beside car 0, and is away only behind the changes.
        self.becomes(
            0, ((), ((3, 2, 0, 0), (4, 3, 0, 0)), ((3, 0, 0, 0), (4, 1, 0, 0))),
            (((3, 2, 0, 0),), ((4, 3, 0, 0),), ((3, 0, 0, 0), (4, 1, 0, 0))),
        )
        self.becomes(
            1, (((3, 0, 0, 0), (4, 1, 0, 0)), ((3, 2, 0, 0), (4, 3, 0, 0)), ()),
            (((3, 0, 0, 0), (4, 1, 0, 0)), ((4, 3, 0, 0),), ((3, 2, 0, 0),)),
        )

    def test_room_that_comes_from_a_change_does_not_count(self):
        # Car 1 goes away from before car 0, which does not know it.
        self.becomes(
            0, ((), ((2, 0, 0, 0), (3, 1, 0, 0), (4, 2, 0, 0)), ()),
            (((2, 0, 0, 0), (3, 1, 0, 0)), ((4, 2, 0, 0),), ()),
        )
        # Car 3 goes away from the lane 1, in which, as it was, car 0 has no more room.
        self.becomes(
            0, ((), ((4, 3, 0, 0), (5, 4, 0, 0)), ((3, 0, 0, 0), (4, 1, 0, 0))),
            (((4, 3, 0, 0),), ((5, 4, 0, 0),), ((3, 0, 0, 0), (4, 1, 0, 0))),
        )

    def test_from_lane_to_lane_in_a_row(self):
        # Each goes one lane on, into the place beside that of another that goes away, too.
        self.becomes(
            0, ((), ((6, 2, 0, 0), (7, 3, 0, 0)), ((2, 0, 0, 0), (3, 1, 0, 0))),
            (((6, 2, 0, 0),), ((2, 0, 0, 0), (7, 3, 0, 0)), ((3, 1, 0, 0),)),
        )

    def test_a_lane_stays_ascending(self):
        one = ((1, 5, 0, 0), (2, 6, 0, 0), (5, 0, 0, 0), (6, 1, 0, 0))
        other = ((0, 2, 0, 0), (3, 3, 1, 0), (10, 4, 0, 0))
        both = ((0, 2, 0, 0), (1, 5, 0, 0), (3, 3, 1, 0), (5, 0, 0, 0), (10, 4, 0, 0))
        self.becomes(1, (one, other, ()), (((2, 6, 0, 0), (6, 1, 0, 0)), both, ()))

    def test_each_road_by_itself(self):
        state = state_with(NET, 1, {
            (0, 0): ((3, 0, 1, 0), (4, 1, 0, 0)),
            (1, 0): ((3, 9, 1, 0), (4, 10, 0, 0)),
            (1, 1): ((2, 11, 1, 0),),
            (2, 0): ((3, 13, 1, 0), (4, 14, 0, 0)),
        })
        self.assertEqual(changed(NET, CARS, state), (
            (((4, 1, 0, 0),), ((3, 0, 1, 0),), ()),
            state[1][1],
            state[1][2],
        ))

    def test_nobody_there(self):
        for time in (0, 1):
            self.assertEqual(changed(NET, (), state_with(NET, time, {})), (((), (), ()), ((), ()), ((),)))

    def test_in_a_town(self):
        # Car 4 has all the room that it wants; with less, it goes to a side by the time.
        self.assertEqual(changed(TOWN, TOWN_CARS, TOWN_STATE), TOWN_STATE[1])
        close = state_with(TOWN, 6, {(2, 1): ((3, 4, 5, 0), (7, 0, 2, 3))})
        self.assertEqual(changed(TOWN, TOWN_CARS, close)[2], (((3, 4, 5, 0),), ((7, 0, 2, 3),), ()))
        close = state_with(TOWN, 7, {(2, 1): ((3, 4, 5, 0), (7, 0, 2, 3))})
        self.assertEqual(changed(TOWN, TOWN_CARS, close)[2], ((), ((7, 0, 2, 3),), ((3, 4, 5, 0),)))

    def test_tuples_come_back(self):
        rows = changed(NET, CARS, state_with(NET, 0, {(0, 1): ((3, 0, 1, 0), (4, 1, 0, 0))}))
        for told in (rows,) + rows + rows[0] + rows[0][0]:
            self.assertIs(type(told), tuple)


class FirstPartTest(unittest.TestCase):
    """[8]: the changes of lane come before all else."""

    def test_a_car_changes_and_moves_in_one_step(self):
        state = state_with(NET, 0, {(0, 1): ((3, 0, 1, 0), (4, 1, 0, 0))})
        self.assertEqual(step(NET, CARS, state)[1][0][:2], (((0, 2, 0, 0), (5, 0, 2, 0)), ((5, 1, 1, 0),)))

    def test_who_waited_behind_has_room_then(self):
        # Car 0 changes no lane, as the cell beside it is taken; it moves into the cell that car 1 has left.
        net = (((2, 9, 5, -1),), ())
        cars = ((0, (0,)),) * 4
        state = state_with(net, 0, {(0, 0): ((2, 3, 0, 0),), (0, 1): ((2, 0, 0, 0), (3, 1, 0, 0), (4, 2, 0, 0))})
        self.assertEqual(changed(net, cars, state), ((((2, 3, 0, 0), (3, 1, 0, 0)), ((2, 0, 0, 0), (4, 2, 0, 0))),))
        self.assertEqual(step(net, cars, state), (
            1, ((((2, 3, 0, 0), (4, 1, 1, 0)), ((3, 0, 1, 0), (5, 2, 1, 0))),), (),
        ))

    def test_who_changes_into_the_way_of_another_one(self):
        # Car 2, at speed 1, has wanted to go 2, and now has 1 cell free before car 0.
        net = (((2, 9, 5, -1),), ())
        cars = ((0, (0,)),) * 3
        state = state_with(net, 0, {(0, 0): ((2, 2, 1, 0),), (0, 1): ((4, 0, 0, 0), (5, 1, 0, 0))})
        self.assertEqual(step(net, cars, state), (1, ((((3, 2, 1, 0), (5, 0, 1, 0)), ((6, 1, 1, 0),)),), ()))


if __name__ == "__main__":
    unittest.main()
