"""[21] and [22]: cuttings, the owners of crossings, and who gets and sends which letters."""

import itertools
import unittest

from carfax import errors
from carfax.cuttings import check_cutting, letters_from, letters_to, owner
from carfax.errors import BadCutting
from tests import reference_team
from tests.drawn import draw_cutting, draw_net
from tests.samples import DEEP, GREATEST, LEAST, TOWN, lists_for_tuples, spoiled
from tests.teamwork import MERGE, RING

# Road 3 begins where no road ends; road 0 begins nowhere, road 2 ends at no crossing.
ENDS = (
    ((1, 2, 1, 1), (1, 2, 1, 0), (1, 2, 1, -1), (1, 2, 1, 1)),
    ((("order", (1,)), (2,)), (("order", (3, 0)), (1,)), (("order", ()), (3,)), (("lights", ((1, ()),)), ())),
)


def is_cutting(net, value):
    try:
        check_cutting(net, value)
    except BadCutting:
        return False
    return True


class CheckTest(unittest.TestCase):
    def test_cuttings(self):
        self.assertIsNone(check_cutting(LEAST, (0,)))
        for value in ((0, 0, 0), (0, 0, 1), (1, 0, 0), (1, 1, 0), (0, 1, 2), (2, 1, 0), (2, 0, 1)):
            self.assertIsNone(check_cutting(MERGE, value))
        for value in ((0,) * 12, (3, 2, 1, 0) * 3, (0,) * 9 + (1, 2, 3), (3,) * 9 + (2, 1, 0)):
            self.assertIsNone(check_cutting(GREATEST, value))

    def test_all_tuples_of_small_numbers(self):
        for net in (LEAST, MERGE, ENDS, TOWN):
            roads = len(net[0])
            for value in itertools.product(range(-1, 5), repeat=min(roads, 4)):
                value = value + value[:1] * (roads - len(value))
                sound = min(value) >= 0 and max(value) <= 3 and len(set(value)) == max(value) + 1
                self.assertEqual(is_cutting(net, value), sound, value)

    def test_a_worker_without_a_road(self):
        for value in ((1, 1, 1), (2, 0, 2), (0, 0, 2), (1, 2, 1), (3, 3, 3), (0, 1, 3), (2, 3, 1)):
            with self.assertRaises(BadCutting):
                check_cutting(MERGE, value)
        with self.assertRaises(BadCutting):
            check_cutting(LEAST, (1,))

    def test_five_workers(self):
        with self.assertRaises(BadCutting):
            check_cutting(TOWN, (0, 1, 2, 3, 4, 0))
        with self.assertRaises(BadCutting):
            check_cutting(GREATEST, tuple(range(12)))

    def test_another_length(self):
        for value in ((), (0,), (0, 1), (0, 1, 2, 0), (0, 1, 2, 3), (0, 0, 0, 0, 0, 0)):
            with self.assertRaises(BadCutting):
                check_cutting(MERGE, value)

    def test_no_integers(self):
        for stranger in (True, False, None, "0", "", -1, -10 ** 30, 10 ** 30, 10 ** 5000, (0,), [0], (), DEEP):
            for at in range(3):
                value = [0, 1, 0]
                value[at] = stranger
                with self.assertRaises(BadCutting):
                    check_cutting(MERGE, tuple(value))
        # True is equal to 1, but no number of a worker.
        with self.assertRaises(BadCutting):
            check_cutting(MERGE, (0, True, 1))

    def test_no_tuples(self):
        for value in ([0, 1, 2], [], "012", 0, 3, None, True, False, DEEP, [DEEP], (DEEP,), ([0], [1], [2])):
            with self.assertRaises(BadCutting):
                check_cutting(MERGE, value)

    def test_strangers_in_each_place(self):
        for value in ((0, 1, 2), (0, 0, 1), (2, 0, 1)):
            for path, at, wrong in spoiled(value):
                with self.subTest(path=path, at=at):
                    with self.assertRaises(BadCutting):
                        check_cutting(MERGE, wrong)
            with self.assertRaises(BadCutting):
                check_cutting(MERGE, lists_for_tuples(value))

    def test_the_class_is_none_of_the_others(self):
        for name in ("BadNet", "BadCars", "BadState", "BadMove", "TooLong"):
            other = getattr(errors, name)
            self.assertFalse(issubclass(BadCutting, other))
            self.assertFalse(issubclass(other, BadCutting))
        try:
            check_cutting(MERGE, ())
        except errors.CarfaxError as error:
            self.assertIs(type(error), BadCutting)


class OwnerTest(unittest.TestCase):
    def test_a_crossing_with_roads_of_several_workers(self):
        # The least road counts: neither the least worker, nor the first road in the order.
        self.assertEqual(owner(MERGE, (0, 1, 2), 0), 0)
        self.assertEqual(owner(MERGE, (2, 1, 0), 0), 2)
        self.assertEqual(owner(MERGE, (1, 0, 0), 0), 1)
        self.assertEqual(owner(ENDS, (3, 0, 1, 2), 1), 3)
        self.assertEqual([owner(TOWN, (2, 1, 0, 0, 3, 0), crossing) for crossing in (0, 1)], [2, 0])

    def test_a_crossing_at_which_no_road_ends(self):
        self.assertEqual(owner(TOWN, (0, 1, 2, 3, 0, 0), 2), -1)
        self.assertEqual(owner(TOWN, (0, 1, 2, 3, 0, 0), 3), -1)
        self.assertEqual([owner(ENDS, (0, 0, 0, 0), crossing) for crossing in range(4)], [0, 0, -1, -1])

    def test_one_worker_has_all(self):
        self.assertEqual([owner(GREATEST, (0,) * 12, crossing) for crossing in range(8)], [0] * 8)

    def test_drawn(self):
        for seed in range(60):
            net = draw_net(seed)
            cutting = draw_cutting(seed, net)
            self.assertIsNone(check_cutting(net, cutting))
            for crossing in range(len(net[1])):
                self.assertEqual(owner(net, cutting, crossing), reference_team.owner(net, cutting, crossing))


class LettersTest(unittest.TestCase):
    def check(self, net, cutting, told):
        """Compares with what each worker gets and sends."""
        for worker, (getting, sending) in enumerate(told):
            self.assertEqual(letters_to(net, cutting, worker), getting)
            self.assertEqual(letters_from(net, cutting, worker), sending)

    def test_each_kind(self):
        self.check(MERGE, (0, 1, 2), [
            ([("ask", 1), ("heads", 2)], [("come", 2), ("let", 1)]),
            ([("let", 1)], [("ask", 1)]),
            ([("come", 2)], [("heads", 2)]),
        ])

    def test_the_crossing_belongs_to_another_one(self):
        self.check(MERGE, (1, 0, 0), [
            ([("come", 2), ("let", 1)], [("ask", 1), ("heads", 2)]),
            ([("ask", 1), ("heads", 2)], [("come", 2), ("let", 1)]),
        ])

    def test_none_to_oneself(self):
        self.check(MERGE, (0, 0, 0), [([], [])])
        self.check(MERGE, (0, 0, 1), [([("heads", 2)], [("come", 2)]), ([("come", 2)], [("heads", 2)])])
        self.check(MERGE, (0, 1, 0), [([("ask", 1)], [("let", 1)]), ([("let", 1)], [("ask", 1)])])
        self.check(MERGE, (0, 1, 1), [
            ([("ask", 1), ("heads", 2)], [("come", 2), ("let", 1)]),
            ([("come", 2), ("let", 1)], [("ask", 1), ("heads", 2)]),
        ])

    def test_a_ring(self):
        # Each road ends at a crossing of its own worker, and begins at that of another one.
        self.check(RING, (0, 1, 2), [
            ([("come", 0), ("heads", 1)], [("come", 1), ("heads", 0)]),
            ([("come", 1), ("heads", 2)], [("come", 2), ("heads", 1)]),
            ([("come", 2), ("heads", 0)], [("come", 0), ("heads", 2)]),
        ])

    def test_roads_that_end_or_begin_nowhere(self):
        # Crossing 0: worker 1; crossing 1: worker 0; the others: nobody. Road 3 begins at one of nobody.
        self.check(ENDS, (0, 1, 2, 3), [
            ([("ask", 3), ("heads", 1)], [("come", 1), ("let", 3)]),
            ([("come", 1), ("heads", 2)], [("come", 2), ("heads", 1)]),
            ([("come", 2)], [("heads", 2)]),
            ([("let", 3)], [("ask", 3)]),
        ])
        apart = (((1, 2, 1, -1), (1, 2, 1, -1), (1, 2, 1, -1)), ((("order", ()), (0, 1)),))
        self.check(apart, (0, 1, 2), [([], [])] * 3)

    def test_a_road_that_leads_to_itself(self):
        net = (((1, 2, 1, 0), (1, 2, 1, 0)), ((("order", (0, 1)), (1,)),))
        self.check(net, (0, 1), [
            ([("ask", 1), ("heads", 1)], [("come", 1), ("let", 1)]),
            ([("come", 1), ("let", 1)], [("ask", 1), ("heads", 1)]),
        ])

    def test_a_town(self):
        self.check(TOWN, (0, 0, 1, 1, 0, 2), [
            ([("ask", 5), ("heads", 2), ("heads", 3), ("let", 4)], [("ask", 4), ("come", 2), ("come", 3), ("let", 5)]),
            (
                [("ask", 4), ("come", 2), ("come", 3), ("heads", 5)],
                [("come", 5), ("heads", 2), ("heads", 3), ("let", 4)],
            ),
            ([("come", 5), ("let", 5)], [("ask", 5), ("heads", 5)]),
        ])

    def test_drawn(self):
        many = 0
        for seed in range(120):
            net = draw_net(seed)
            cutting = draw_cutting(seed, net)
            for worker in range(max(cutting) + 1):
                getting, sending = letters_to(net, cutting, worker), letters_from(net, cutting, worker)
                self.assertEqual(getting, reference_team.letters_to(net, cutting, worker))
                self.assertEqual(sending, reference_team.letters_from(net, cutting, worker))
                self.assertEqual(getting, sorted(getting))
                self.assertEqual(sending, sorted(sending))
                many += len(getting)
        self.assertGreater(many, 500)


if __name__ == "__main__":
    unittest.main()
