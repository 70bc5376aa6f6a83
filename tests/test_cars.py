"""[4]: check_cars."""

import unittest

from carfax.errors import BadCars
from carfax.nets import check_cars, check_net
from tests.samples import DEEP, GREATEST, LEAST, TOWN, TOWN_CARS, lists_for_tuples, put, spoiled, spots

# A ring of the roads 0, 1 and 2; road 3 leaves it behind road 0, road 4 leads into it and begins nowhere.
# Road 3 ends at no crossing, and the last crossing has the road 0.
RING = (
    ((1, 3, 1, 0), (1, 3, 1, 1), (1, 3, 1, 2), (1, 3, 1, -1), (1, 3, 1, 2)),
    ((("order", (0,)), (1, 3)), (("order", (1,)), (2,)), (("order", (2, 4)), (0,))),
)


class CheckCarsTest(unittest.TestCase):
    def good(self, net, value):
        self.assertIsNone(check_cars(net, value))

    def bad(self, net, value):
        with self.assertRaises(BadCars):
            check_cars(net, value)

    def test_the_samples_are_nets(self):
        for net in (RING, TOWN, LEAST, GREATEST):
            check_net(net)

    def test_no_cars(self):
        for net in (RING, TOWN, LEAST):
            self.good(net, ())
            self.bad(net, [])
            self.bad(net, "")
            self.bad(net, None)

    def test_cars_of_all_kinds(self):
        self.good(TOWN, TOWN_CARS)

    def test_values_of_other_kinds(self):
        for value in (None, True, False, 0, 1, "ab", (0, (0,)), [(0, (0,))], (((0, (0,)),),), ((),), DEEP, (DEEP,)):
            self.bad(RING, value)

    def test_all_lists_for_tuples(self):
        self.bad(TOWN, lists_for_tuples(TOWN_CARS))
        for path, node in spots(TOWN_CARS):
            if isinstance(node, tuple):
                with self.subTest(path=path):
                    self.bad(TOWN, put(TOWN_CARS, path, list(node)))

    def test_strangers_in_any_place(self):
        for path, at, wrong in spoiled(TOWN_CARS):
            with self.subTest(path=path, stranger=at):
                self.bad(TOWN, wrong)

    def test_true_and_false_are_no_integers(self):
        self.good(RING, ((1, (1,)), (0, (0,))))
        for value in (((True, (1,)),), ((1, (True,)),), ((False, (0,)),), ((0, (False,)),), ((0, (0, True)),)):
            self.bad(RING, value)

    def test_times(self):
        for time in (0, 1, 25, 49, 50):
            self.good(RING, ((time, (0,)),))
            self.good(RING, ((3, (1,)), (time, (0,))))
        for time in (-50, -2, -1, 51, 52, 100, 10 ** 30):
            self.bad(RING, ((time, (0,)),))
            self.bad(RING, ((3, (1,)), (time, (0,))))

    def test_times_in_any_order(self):
        self.good(RING, ((50, (0,)), (0, (0,)), (7, (0,)), (7, (0,))))

    def test_number_of_cars(self):
        for many in (1, 2, 29, 30):
            self.good(RING, ((0, (0,)),) * many)
        for many in (31, 32, 60):
            self.bad(RING, ((0, (0,)),) * many)

    def test_each_car_is_checked(self):
        for at in range(30):
            for wrong in ((51, (0,)), (0, ()), (0, (5,)), (0, (0, 2)), (0, [0]), (0, 0)):
                self.bad(RING, ((0, (0,)),) * at + (wrong,) + ((0, (0,)),) * (29 - at))

    def test_the_pair_of_a_car(self):
        for car in ((), (0,), ((0,),), (0, (0,), 0), (0, (0,), (1,)), (0, 0), (0, 0, 1), ((0,), 0)):
            self.bad(RING, (car,))

    def test_length_of_a_way(self):
        ring = (0, 1, 2, 0, 1, 2, 0, 1)
        for many in range(1, 7):
            self.good(RING, ((0, ring[:many]),))
        for many in (0, 7, 8):
            self.bad(RING, ((0, ring[:many]),))

    def test_a_way_is_of_roads_of_the_net(self):
        for road in range(5):
            self.good(RING, ((0, (road,)),))
        for road in (-5, -2, -1, 5, 6, 10 ** 30):
            self.bad(RING, ((0, (road,)),))
            self.bad(RING, ((0, (road, 0)),))
            self.bad(RING, ((0, (0, road)),))
            self.bad(RING, ((0, (0, 1, road)),))

    def test_a_road_follows_where_it_begins(self):
        follow = [(0, 1), (0, 3), (1, 2), (2, 0), (4, 0)]
        for road in range(5):
            for following in range(5):
                with self.subTest(road=road, following=following):
                    value = ((0, (road, following)),)
                    if (road, following) in follow:
                        self.good(RING, value)
                    else:
                        self.bad(RING, value)

    def test_nothing_follows_the_end_at_no_crossing(self):
        for following in range(5):
            self.bad(RING, ((0, (3, following)),))
            self.bad(RING, ((0, (0, 3, following)),))
            self.bad(RING, ((0, (0, 3, following, 1)),))
        self.good(RING, ((0, (2, 0, 3)),))

    def test_nothing_follows_where_there_are_no_crossings(self):
        net = (((1, 2, 1, -1), (1, 2, 1, -1)), ())
        self.good(net, ((0, (0,)), (0, (1,))))
        for way in ((0, 1), (1, 0), (0, 0), (1, 1)):
            self.bad(net, ((0, way),))

    def test_a_road_that_ends_there_does_not_follow(self):
        self.bad(RING, ((0, (2, 4)),))
        self.bad(RING, ((0, (4, 2)),))
        self.bad(RING, ((0, (0, 0)),))

    def test_each_road_of_a_way_is_checked(self):
        way = (0, 1, 2, 0, 1, 2)
        for at in range(1, 6):
            for road in range(5):
                wrong = way[:at] + (road,) + way[at + 1:]
                if road != way[at] and (at < 5 or way[4] != 0):
                    with self.subTest(at=at, road=road):
                        self.bad(RING, ((0, wrong),))

    def test_a_road_may_stand_in_a_way_more_than_once(self):
        loop = (((1, 2, 1, 0),), ((("order", (0,)), (0,)),))
        self.good(loop, ((0, (0, 0, 0, 0, 0, 0)),))
        self.bad(loop, ((0, (0, 0, 0, 0, 0, 0, 0)),))

    def test_any_road_may_be_the_first_one(self):
        self.good(RING, ((0, (4, 0)), (0, (3,)), (0, (1, 2))))

    def test_the_net_tells(self):
        value = ((0, (1, 2)),)
        self.good(RING, value)
        self.bad(LEAST, value)
        self.bad(GREATEST, value)
        self.good(GREATEST, ((0, (8, 0, 1, 4)),))
        self.bad(RING, ((0, (8, 0, 1, 4)),))


if __name__ == "__main__":
    unittest.main()
