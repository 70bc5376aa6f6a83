"""[3], [5]: ends and greens."""

import unittest

from carfax.nets import check_net, ends, greens
from tests.samples import GREATEST, LEAST, TOWN


def lit(*phases):
    """A net with lights at crossing 1, where the roads 0, 2 and 3 end."""
    roads = ((1, 2, 1, 1), (1, 2, 1, 0), (1, 2, 1, 1), (1, 2, 1, 1))
    return (roads, ((("order", (1,)), ()), (("lights", phases), ())))


class EndsTest(unittest.TestCase):
    def test_no_crossings(self):
        self.assertEqual(ends(LEAST), [])

    def test_of_each_crossing(self):
        self.assertEqual(ends(TOWN), [[0, 1, 5], [2, 4], [], []])
        self.assertEqual(ends(lit((1, ()))), [[1], [0, 2, 3]])

    def test_of_the_greatest_net(self):
        self.assertEqual(ends(GREATEST), [[0, 8], [1, 9], [2, 10], [3, 11], [4], [5], [6], [7]])

    def test_ascending_whatever_the_order_says(self):
        net = (((1, 2, 1, 0),) * 12, ((("order", tuple(range(12))[::-1]), ()),))
        self.assertEqual(ends(net), [list(range(12))])

    def test_a_road_that_ends_at_no_crossing(self):
        net = (((1, 2, 1, -1),) * 3, ((("order", ()), (0, 1)), (("order", ()), (2,))))
        self.assertEqual(ends(net), [[], []])

    def test_lists_of_their_own(self):
        found = ends(TOWN)
        self.assertIs(type(found), list)
        for roads in found:
            self.assertIs(type(roads), list)
        found[0].append(9)
        found[2].append(9)
        del found[3]
        self.assertEqual(ends(TOWN), [[0, 1, 5], [2, 4], [], []])


class GreensTest(unittest.TestCase):
    def at_each_time(self, net, crossing, round_of):
        """The light is as the list of the greens of each time of its first round says, also later on."""
        check_net(net)
        long = len(round_of)
        for time in range(5 * long + 3):
            with self.subTest(time=time):
                self.assertEqual(greens(net, crossing, time), round_of[time % long])
        for begin in (1000 * long, 10 ** 6 // long * long, long * 10 ** 18, long * 10 ** 40):
            for more in range(-long, 2 * long):
                with self.subTest(begin=begin, more=more):
                    self.assertEqual(greens(net, crossing, begin + more), round_of[more % long])

    def test_phases_of_different_durations(self):
        self.at_each_time(TOWN, 0, [[0]] * 3 + [[]] + [[1, 5]] * 2)

    def test_one_phase(self):
        self.at_each_time(lit((1, (0, 3))), 1, [[0, 3]])
        self.at_each_time(lit((9, (2,))), 1, [[2]] * 9)
        self.at_each_time(lit((4, ())), 1, [[]] * 4)

    def test_two_phases(self):
        self.at_each_time(lit((1, (0,)), (1, (2, 3))), 1, [[0], [2, 3]])
        self.at_each_time(lit((2, ()), (5, (0, 2, 3))), 1, [[]] * 2 + [[0, 2, 3]] * 5)

    def test_four_phases(self):
        net = lit((9, (0,)), (1, (2,)), (7, ()), (3, (0, 2, 3)))
        self.at_each_time(net, 1, [[0]] * 9 + [[2]] + [[]] * 7 + [[0, 2, 3]] * 3)

    def test_the_longest_phases(self):
        net = lit((9, (0,)), (9, (2,)), (9, (3,)), (9, ()))
        self.at_each_time(net, 1, [[0]] * 9 + [[2]] * 9 + [[3]] * 9 + [[]] * 9)

    def test_the_shortest_phases(self):
        self.at_each_time(lit((1, (0,)), (1, (2,)), (1, (3,)), (1, ())), 1, [[0], [2], [3], []])

    def test_two_phases_that_are_alike(self):
        self.at_each_time(lit((2, (0,)), (1, (2,)), (2, (0,))), 1, [[0], [0], [2], [0], [0]])

    def test_first_and_last_steps(self):
        net = lit((3, (0,)), (5, (2,)), (1, (3,)))
        for times, told in (((0, 2, 9, 11, 18, 20), [0]), ((3, 7, 12, 16, 21, 25), [2]), ((8, 17, 26, 89), [3])):
            for time in times:
                with self.subTest(time=time):
                    self.assertEqual(greens(net, 1, time), told)

    def test_each_crossing_has_its_own_light(self):
        net = (
            ((1, 2, 1, 0), (1, 2, 1, 1)),
            ((("lights", ((1, (0,)), (1, ()))), ()), (("lights", ((2, ()), (1, (1,)))), ())),
        )
        self.at_each_time(net, 0, [[0], []])
        self.at_each_time(net, 1, [[], [], [1]])

    def test_an_order_is_always_green_for_all(self):
        for time in (0, 1, 2, 5, 1000, 10 ** 6, 10 ** 30):
            self.assertEqual(greens(TOWN, 1, time), [2, 4])
            self.assertEqual(greens(TOWN, 2, time), [])

    def test_an_order_is_told_ascending(self):
        for order in ((0, 1, 2), (2, 1, 0), (1, 2, 0), (2, 0, 1)):
            net = (((1, 2, 1, 0),) * 3 + ((1, 2, 1, -1),), ((("order", order), (3,)),))
            self.assertEqual(greens(net, 0, 0), [0, 1, 2])

    def test_lists_of_their_own(self):
        for crossing, time, told in ((0, 0, [0]), (0, 3, []), (0, 4, [1, 5]), (1, 0, [2, 4]), (2, 0, [])):
            found = greens(TOWN, crossing, time)
            self.assertIs(type(found), list)
            found.append(9)
            self.assertEqual(greens(TOWN, crossing, time), told)
            self.assertEqual(greens(TOWN, crossing, time + 6), told)


if __name__ == "__main__":
    unittest.main()
