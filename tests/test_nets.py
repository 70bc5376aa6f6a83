"""[3]: check_net."""

import unittest

from carfax.errors import BadNet
from carfax.nets import check_net
from tests.samples import DEEP, GREATEST, LEAST, TOWN, lists_for_tuples, put, spoiled, spots

ROAD = (1, 2, 1, -1)
ENDING = (1, 2, 1, 0)


def roads_of(many, road=ROAD):
    return (road,) * many


def with_road(road):
    """A net with one crossing and the road among others."""
    return ((ROAD, road, ENDING), ((("lights", ((1, ()),)), ()),))


def with_rule(rule, outs=()):
    """A net with the rule at crossing 0, where the roads 0, 2 and 3 end."""
    roads = ((1, 2, 1, 0), (1, 2, 1, 1), (1, 2, 1, 0), (1, 2, 1, 0), ROAD)
    return (roads, ((rule, outs), (("order", (1,)), ())))


def with_outs(*outs):
    """A net of seven roads with a crossing for each of the tuples of roads that begin there."""
    return (roads_of(7), tuple((("order", ()), told) for told in outs))


def with_phases(*phases):
    return with_rule(("lights", phases))


class CheckNetTest(unittest.TestCase):
    def good(self, value):
        self.assertIsNone(check_net(value))

    def bad(self, value):
        with self.assertRaises(BadNet):
            check_net(value)

    def test_the_least_net(self):
        self.good(LEAST)
        self.good(((ROAD,), ()))

    def test_the_greatest_net(self):
        self.good(GREATEST)

    def test_a_net_of_all_kinds(self):
        self.good(TOWN)

    def test_crossings_without_roads(self):
        self.good(((ROAD,), ((("order", ()), ()),)))
        self.good(((ROAD,), ((("lights", ((1, ()),)), ()),)))
        self.good(((ROAD,), ((("order", ()), ()),) * 8))

    def test_a_crossing_with_no_outs(self):
        self.good(((ENDING,), ((("order", (0,)), ()),)))

    def test_a_road_that_ends_where_it_begins(self):
        self.good(((ENDING,), ((("order", (0,)), (0,)),)))
        self.good(((ENDING,), ((("lights", ((1, (0,)),)), (0,)),)))

    def test_all_lists_for_tuples(self):
        for value in (LEAST, GREATEST, TOWN):
            self.bad(lists_for_tuples(value))

    def test_a_list_for_any_one_tuple(self):
        for value in (LEAST, GREATEST, TOWN):
            for path, node in spots(value):
                if isinstance(node, tuple):
                    with self.subTest(path=path):
                        self.bad(put(value, path, list(node)))

    def test_strangers_in_any_place(self):
        for value in (LEAST, TOWN):
            for path, at, wrong in spoiled(value):
                with self.subTest(path=path, stranger=at):
                    self.bad(wrong)

    def test_true_and_false_are_no_integers(self):
        for value in (LEAST, GREATEST, TOWN):
            for path, node in spots(value):
                if isinstance(node, int):
                    with self.subTest(path=path):
                        self.bad(put(value, path, True))
                        self.bad(put(value, path, False))

    def test_values_of_other_kinds(self):
        for value in (None, True, False, 0, 1, 2, "", "ab", "net", (), [], [LEAST], ((), ()), ([], []), DEEP):
            self.bad(value)

    def test_the_pair(self):
        self.bad((LEAST[0],))
        self.bad(LEAST + ((),))
        self.bad(LEAST + (None,))
        self.bad((LEAST[1], LEAST[0]))
        self.bad(TOWN[0])
        self.bad(TOWN[1])

    def test_number_of_roads(self):
        for many in range(1, 13):
            self.good((roads_of(many), ()))
        self.bad(((), ()))
        self.bad(((), ((("order", ()), ()),)))
        self.bad((roads_of(13), ()))
        self.bad((roads_of(14), ()))

    def test_number_of_crossings(self):
        for many in range(9):
            self.good((roads_of(1), ((("order", ()), ()),) * many))
        self.bad((roads_of(1), ((("order", ()), ()),) * 9))
        self.bad((roads_of(12), ((("order", ()), ()),) * 9))
        self.bad((roads_of(1), ((("order", ()), ()),) * 10))

    def test_the_tuple_of_a_road(self):
        for road in ((), (1,), (1, 2), (1, 2, 1), (1, 2, 1, -1, 0), (1, 2, 1, -1, -1), (1, 2, 1, -1, ())):
            self.bad(with_road(road))
            self.bad(((road,), ()))

    def test_lanes(self):
        for lanes in (1, 2, 3):
            self.good(with_road((lanes, 5, 2, -1)))
        for lanes in (-3, -1, 0, 4, 5, 10 ** 30):
            self.bad(with_road((lanes, 5, 2, -1)))

    def test_cells(self):
        for cells in (2, 3, 10, 19, 20):
            self.good(with_road((1, cells, 2, -1)))
        for cells in (-2, 0, 1, 21, 22, 10 ** 30):
            self.bad(with_road((1, cells, 2, -1)))

    def test_limit(self):
        for limit in (1, 2, 3, 4, 5):
            self.good(with_road((1, 5, limit, -1)))
        for limit in (-1, 0, 6, 7, 10 ** 30):
            self.bad(with_road((1, 5, limit, -1)))

    def test_a_limit_greater_than_the_cells(self):
        self.good(with_road((1, 2, 5, -1)))

    def test_the_crossing_at_the_end(self):
        light = (("lights", ((1, ()),)), ())
        for many in range(1, 9):
            for crossing in range(-1, many):
                self.good((((1, 2, 1, crossing),), (light,) * many))
            for crossing in (-3, -2, many, many + 1, 10 ** 30):
                self.bad((((1, 2, 1, crossing),), (light,) * many))

    def test_no_crossing_to_end_at(self):
        for crossing in (-2, 0, 1):
            self.bad((((1, 2, 1, crossing),), ()))

    def test_each_road_is_checked(self):
        for at in range(12):
            for wrong in ((0, 2, 1, -1), (1, 1, 1, -1), (1, 2, 0, -1), (1, 2, 1, 0), [1, 2, 1, -1]):
                roads = roads_of(at) + (wrong,) + roads_of(11 - at)
                self.bad((roads, ()))

    def test_each_crossing_is_checked(self):
        fine = (("order", ()), ())
        for at in range(8):
            for wrong in ((("order", (0,)), ()), (("lights", ()), ()), (("order", ()), (1,)), (("", ()), ())):
                self.bad((roads_of(1), (fine,) * at + (wrong,) + (fine,) * (7 - at)))

    def test_the_pair_of_a_crossing(self):
        rule = ("order", ())
        for crossing in ((), (rule,), (rule, (), ()), (rule, (), None), ((), rule), rule, ("order", (), ())):
            self.bad((roads_of(1), (crossing,)))

    def test_number_of_outs(self):
        for many in range(5):
            self.good(with_outs(tuple(range(many))))
        self.bad(with_outs((0, 1, 2, 3, 4)))
        self.bad(with_outs((0, 1, 2, 3, 4, 5)))

    def test_outs_are_roads_of_the_net(self):
        self.good(with_outs((0,)))
        self.good(with_outs((6,)))
        for road in (-7, -2, -1, 7, 8, 10 ** 30):
            self.bad(with_outs((road,)))
        self.bad(with_outs((-1, 0)))
        self.bad(with_outs((5, 7)))

    def test_outs_are_ascending(self):
        self.good(with_outs((0, 2, 5, 6)))
        for outs in ((1, 0), (0, 2, 1), (1, 0, 2), (6, 5, 2, 0), (0, 1, 3, 2)):
            self.bad(with_outs(outs))

    def test_no_road_stands_twice_in_outs(self):
        for outs in ((0, 0), (0, 1, 1), (0, 0, 1), (3, 3, 3)):
            self.bad(with_outs(outs))

    def test_a_road_begins_at_one_crossing_at_most(self):
        self.good(with_outs((0, 1), (2, 3), (4, 5), (6,)))
        self.good(with_outs((5,), (0, 6), (), (2, 3)))
        self.bad(with_outs((0,), (0,)))
        self.bad(with_outs((0, 1), (1, 2)))
        self.bad(with_outs((0,), (), (), (0,)))
        self.bad(with_outs((0, 1, 2, 3), (4, 5), (3, 6)))
        self.bad(with_outs((5,), (4,), (3,), (2,), (1,), (6,), (0,), (6,)))

    def test_the_rule_is_one_of_two_words(self):
        self.good(with_rule(("lights", ((1, ()),))))
        self.good(with_rule(("order", (0, 2, 3))))
        for word in ("", "light", "lights ", "Lights", "LIGHTS", "orders", "Order", "right", "order\n", "lightsorder"):
            self.bad(with_rule((word, ((1, ()),))))
            self.bad(with_rule((word, (0, 2, 3))))
            self.bad(with_rule((word, ())))
        for word in (None, True, False, 0, 1, (), [], ("order",), ["lights"], DEEP):
            self.bad(with_rule((word, ((1, ()),))))
            self.bad(with_rule((word, (0, 2, 3))))

    def test_the_pair_of_a_rule(self):
        for rule in (
            (), ("order",), ("lights",), ("order", (0, 2, 3), ()), ("lights", ((1, ()),), ()), ("order", 0, 2, 3),
            ("lights", 1, ()), ((0, 2, 3), "order"), "or", "order", None,
        ):
            self.bad(with_rule(rule))
        self.bad(with_rule(["order", (0, 2, 3)]))
        self.bad(with_rule(["lights", ((1, ()),)]))

    def test_what_belongs_to_the_other_word(self):
        self.bad(with_rule(("lights", (0, 2, 3))))
        self.bad(with_rule(("order", ((1, ()),))))
        self.bad(with_rule(("order", ((1, ()), (1, ()), (1, ())))))
        self.bad(with_rule(("lights", (1, ()))))

    def test_number_of_phases(self):
        for many in range(1, 5):
            self.good(with_phases(*((1, (0,)),) * many))
        self.bad(with_phases())
        self.bad(with_phases(*((1, (0,)),) * 5))
        self.bad(with_phases(*((1, ()),) * 6))

    def test_durations(self):
        for duration in range(1, 10):
            self.good(with_phases((duration, (0,))))
            self.good(with_phases((1, (2,)), (duration, (0,))))
        for duration in (-9, -1, 0, 10, 11, 10 ** 30):
            self.bad(with_phases((duration, (0,))))
            self.bad(with_phases((1, (2,)), (duration, (0,))))
            self.bad(with_phases((1, (2,)), (1, ()), (9, (0,)), (duration, ())))

    def test_the_pair_of_a_phase(self):
        for phase in ((), (1,), (1, (0,), ()), (1, (0,), 1), ((0,), 1), (1, 0), (1, (0,), (2,))):
            self.bad(with_phases(phase))
            self.bad(with_phases((1, ()), phase))
        self.bad(with_phases([1, (0,)]))
        self.bad(with_phases((1, [0])))
        self.bad(with_phases((1, [])))

    def test_phases_without_green(self):
        self.good(with_phases((1, ())))
        self.good(with_phases((1, (0, 2, 3)), (2, ()), (3, (2,)), (4, ())))
        self.good(with_phases((1, ()), (2, ()), (3, ()), (4, ())))

    def test_green_for_some_and_for_all(self):
        for green in ((0,), (2,), (3,), (0, 2), (0, 3), (2, 3), (0, 2, 3)):
            self.good(with_phases((1, green)))
            self.good(with_phases((1, green), (1, green)))

    def test_green_is_for_roads_that_end_there(self):
        for green in ((1,), (4,), (0, 1), (1, 2), (0, 2, 4), (0, 1, 2, 3), (0, 1, 2, 3, 4)):
            self.bad(with_phases((1, green)))
            self.bad(with_phases((1, (0,)), (1, green)))

    def test_green_for_roads_that_there_are_not(self):
        for road in (-5, -3, -2, -1, 5, 6, 10 ** 30):
            self.bad(with_phases((1, (road,))))

    def test_green_is_ascending(self):
        for green in ((2, 0), (3, 2), (0, 3, 2), (2, 0, 3), (3, 2, 0)):
            self.bad(with_phases((1, green)))
            self.bad(with_phases((1, (0,)), (1, green)))

    def test_no_road_has_green_twice(self):
        for green in ((0, 0), (2, 2), (0, 2, 2), (0, 0, 3), (0, 0, 2, 3)):
            self.bad(with_phases((1, green)))

    def test_green_for_a_road_that_begins_there_only(self):
        self.bad((((1, 2, 1, -1), ENDING), ((("lights", ((1, (0,)),)), (0,)),)))
        self.good((((1, 2, 1, -1), ENDING), ((("lights", ((1, (1,)),)), (0,)),)))

    def test_an_order_is_any_order(self):
        for order in ((0, 2, 3), (0, 3, 2), (2, 0, 3), (2, 3, 0), (3, 0, 2), (3, 2, 0)):
            self.good(with_rule(("order", order)))

    def test_an_order_has_all_roads_once(self):
        for order in (
            (), (0,), (0, 2), (2, 3), (3, 0), (0, 2, 3, 1), (0, 1, 2, 3), (0, 2, 3, 4), (0, 2, 2), (0, 0, 0),
            (0, 2, 3, 3), (0, 0, 2, 3), (3, 2, 0, 2), (0, 1, 2), (0, 2, 4), (1, 2, 3), (0, 2, 5), (-1, 2, 3),
            (0, 2, -2), (0, 2, 10 ** 30),
        ):
            with self.subTest(order=order):
                self.bad(with_rule(("order", order)))
        self.bad(with_rule(("order", [0, 2, 3])))
        self.bad(with_rule(("order", "023")))

    def test_an_order_where_no_road_ends(self):
        self.good((roads_of(2), ((("order", ()), (0,)),)))
        self.bad((roads_of(2), ((("order", (0,)), (0,)),)))
        self.bad((roads_of(2), ((("order", (0, 1)), (0,)),)))

    def test_all_roads_may_end_at_one_crossing(self):
        every = tuple(range(12))
        self.good((roads_of(12, ENDING), ((("order", every[::-1]), ()),)))
        self.good((roads_of(12, ENDING), ((("lights", ((9, every),)), ()),)))

    def test_an_order_of_nested_values(self):
        self.bad(with_rule(("order", (DEEP, DEEP, DEEP))))
        self.bad(with_rule(("order", (0, "2", None))))
        self.bad(with_phases((1, (DEEP, DEEP))))
        self.bad(with_phases((1, (0, None))))
        self.bad(with_outs((DEEP, DEEP)))
        self.bad(with_outs(("0", 1)))
        self.bad(with_outs(([], [0])))


if __name__ == "__main__":
    unittest.main()
