"""[1], [2] and the interface: names, arguments, files, and that nothing is modified or kept."""

import ast
import inspect
import pathlib
import unittest

from carfax import causes, errors, nets, reports, states, steps
from tests import samples
from tests.samples import LEAST, TOWN, TOWN_CARS, TOWN_STATE

FOLDER = pathlib.Path(errors.__file__).parent

# Cars 0 to 3 stand in a ring, and car 4 waits outside; car 6 is behind car 5, which asks to enter road 3.
LOOP = (
    ((1, 2, 1, 0), (1, 2, 1, 1), (1, 3, 2, 2), (1, 3, 2, -1)),
    ((("order", (0,)), (1,)), (("order", (1,)), (0,)), (("order", (2,)), (3,))),
)
LOOP_CARS = ((0, (0, 1, 0)), (0, (0, 1)), (0, (1, 0)), (0, (1, 0)), (0, (0,)), (0, (2, 3)), (0, (2, 3)))
LOOP_STATE = (3, ((((0, 0, 0, 0), (1, 1, 0, 0)),), (((0, 2, 0, 0), (1, 3, 0, 0)),), (
    ((1, 6, 1, 0), (2, 5, 1, 0)),), ((),)), ())

INTERFACE = [
    (nets, "check_net", ["value"]),
    (nets, "check_cars", ["net", "value"]),
    (nets, "ends", ["net"]),
    (nets, "greens", ["net", "crossing", "time"]),
    (states, "beginning", ["net"]),
    (states, "check_state", ["net", "cars", "value"]),
    (states, "place", ["state", "car"]),
    (states, "room", ["net", "state", "road", "lane", "at"]),
    (states, "outside", ["cars", "state"]),
    (steps, "changed", ["net", "cars", "state"]),
    (steps, "asking", ["net", "cars", "time", "rows"]),
    (steps, "let_through", ["net", "cars", "time", "rows"]),
    (steps, "step", ["net", "cars", "state"]),
    (steps, "run", ["net", "cars", "until"]),
    (causes, "cause", ["net", "cars", "state", "car"]),
    (causes, "rings", ["net", "cars", "state"]),
    (reports, "passed", ["net", "cars", "states", "road", "cell"]),
    (reports, "counts", ["cars", "state"]),
]

CLASSES = ["CarfaxError", "BadNet", "BadCars", "BadState", "BadCutting", "BadMove", "TooLong"]


class InterfaceTest(unittest.TestCase):
    def test_functions_have_their_arguments(self):
        for module, name, arguments in INTERFACE:
            with self.subTest(name=name):
                function = getattr(module, name)
                self.assertTrue(inspect.isfunction(function))
                self.assertEqual(list(inspect.signature(function).parameters), arguments)

    def test_each_is_defined_in_its_file(self):
        for module, name, _ in INTERFACE:
            with self.subTest(name=name):
                self.assertEqual(getattr(module, name).__module__, module.__name__)
                self.assertEqual(inspect.getsourcefile(getattr(module, name)), inspect.getsourcefile(module))
        for name in CLASSES:
            with self.subTest(name=name):
                self.assertTrue(inspect.isclass(getattr(errors, name)))
                self.assertEqual(getattr(errors, name).__module__, "carfax.errors")

    def test_arguments_by_their_names(self):
        self.assertIsNone(nets.check_net(value=TOWN))
        self.assertIsNone(nets.check_cars(net=TOWN, value=TOWN_CARS))
        self.assertEqual(nets.ends(net=LEAST), [])
        self.assertEqual(nets.greens(net=TOWN, crossing=1, time=0), [2, 4])
        self.assertEqual(states.beginning(net=LEAST), (0, (((),),), ()))
        self.assertIsNone(states.check_state(net=TOWN, cars=TOWN_CARS, value=TOWN_STATE))
        self.assertEqual(states.place(state=TOWN_STATE, car=5), (1, 0, 4))
        self.assertEqual(states.room(net=TOWN, state=TOWN_STATE, road=2, lane=1, at=0), 5)
        self.assertEqual(states.outside(cars=TOWN_CARS, state=TOWN_STATE), [1, 3])
        rows = steps.changed(net=TOWN, cars=TOWN_CARS, state=TOWN_STATE)
        self.assertEqual(rows, TOWN_STATE[1])
        self.assertEqual(steps.asking(net=TOWN, cars=TOWN_CARS, time=4, rows=rows), [(5, 1, 0, 3, 0)])
        self.assertEqual(steps.let_through(net=TOWN, cars=TOWN_CARS, time=4, rows=rows), ([(5, 1, 0, 3, 0)], []))
        self.assertEqual(steps.step(net=TOWN, cars=(), state=states.beginning(TOWN))[0], 1)
        self.assertEqual(steps.run(net=TOWN, cars=TOWN_CARS, until=0), [states.beginning(TOWN)])
        self.assertEqual(causes.cause(net=TOWN, cars=TOWN_CARS, state=TOWN_STATE, car=5), ("light", 0))
        self.assertEqual(causes.rings(net=TOWN, cars=TOWN_CARS, state=TOWN_STATE), [])
        self.assertEqual(reports.passed(net=TOWN, cars=TOWN_CARS, states=[TOWN_STATE], road=0, cell=0), [])
        self.assertEqual(reports.counts(cars=TOWN_CARS, state=TOWN_STATE), (2, 5, 1))


class NothingIsModifiedTest(unittest.TestCase):
    def test_checks_leave_their_arguments_alone(self):
        values = [
            TOWN, TOWN_CARS, TOWN_STATE, samples.GREATEST,
            samples.lists_for_tuples(TOWN),
            samples.lists_for_tuples(TOWN_CARS),
            samples.lists_for_tuples(TOWN_STATE),
            ([(1, 2, 1, -1)], []), (TOWN[0], [TOWN[1][0]]), [(50, [4, 5, 3])],
            (6, [[[(2, 2, 0, 0)]]], [(7, 5), (1, 2)]), [3, 1, 2], ([3, 1, 2], [2, 1]),
        ]
        for value in values:
            before = samples.frozen(value)
            for check in (
                nets.check_net,
                lambda told: nets.check_cars(TOWN, told),
                lambda told: states.check_state(TOWN, TOWN_CARS, told),
            ):
                try:
                    check(value)
                except errors.CarfaxError:
                    pass
                self.assertEqual(samples.frozen(value), before)

    def test_lists_in_a_wrong_value_are_left_alone(self):
        for path, node in samples.spots(TOWN):
            if isinstance(node, tuple):
                value = samples.put(TOWN, path, list(node)[::-1])
                before = samples.frozen(value)
                with self.assertRaises(errors.BadNet):
                    nets.check_net(value)
                self.assertEqual(samples.frozen(value), before)

    def test_answers_do_not_depend_on_earlier_calls(self):
        other = (((1, 2, 1, -1), (2, 3, 4, 0)), ((("lights", ((2, ()), (3, (1,)))), (0,)),))
        calls = [
            lambda: nets.ends(TOWN),
            lambda: nets.ends(other),
            lambda: nets.greens(TOWN, 0, 3),
            lambda: nets.greens(other, 0, 3),
            lambda: nets.greens(TOWN, 0, 4),
            lambda: nets.greens(TOWN, 1, 4),
            lambda: states.beginning(TOWN),
            lambda: states.beginning(other),
            lambda: states.place(TOWN_STATE, 0),
            lambda: states.place((0, ((()),), ()), 0),
            lambda: states.outside(TOWN_CARS, TOWN_STATE),
            lambda: states.outside(TOWN_CARS, states.beginning(TOWN)),
            lambda: states.room(TOWN, TOWN_STATE, 2, 1, 0),
            lambda: states.room(TOWN, TOWN_STATE, 2, 1, 1),
        ] + calls_with_lists() + [
            lambda: steps.changed(TOWN, TOWN_CARS, TOWN_STATE),
            lambda: steps.changed(LOOP, LOOP_CARS, LOOP_STATE),
            lambda: steps.step(TOWN, TOWN_CARS, TOWN_STATE),
            lambda: steps.step(TOWN, TOWN_CARS[:7], TOWN_STATE[:2] + ((),)),
            lambda: steps.step(LOOP, LOOP_CARS, LOOP_STATE),
            lambda: steps.run(TOWN, TOWN_CARS[:4], 30),
            lambda: causes.cause(TOWN, TOWN_CARS, TOWN_STATE, 5),
            lambda: causes.cause(LOOP, LOOP_CARS, LOOP_STATE, 5),
            lambda: causes.cause(LOOP, LOOP_CARS, LOOP_STATE, 4),
            lambda: reports.counts(TOWN_CARS, TOWN_STATE),
            lambda: reports.counts(LOOP_CARS, LOOP_STATE),
        ]
        first = [samples.frozen(call()) for call in calls]
        self.assertEqual([samples.frozen(call()) for call in calls], first)
        self.assertEqual([samples.frozen(call()) for call in calls[::-1]], first[::-1])

    def test_a_wrong_value_leaves_nothing_behind(self):
        for _ in range(2):
            with self.assertRaises(errors.BadNet):
                nets.check_net((TOWN[0], TOWN[1] * 3))
            self.assertIsNone(nets.check_net(TOWN))
            with self.assertRaises(errors.BadCars):
                nets.check_cars(LEAST, TOWN_CARS)
            self.assertIsNone(nets.check_cars(TOWN, TOWN_CARS))
            with self.assertRaises(errors.BadState):
                states.check_state(TOWN, (), TOWN_STATE)
            self.assertIsNone(states.check_state(TOWN, TOWN_CARS, TOWN_STATE))

    def test_lists_belong_to_the_caller(self):
        calls = [
            lambda: nets.ends(TOWN),
            lambda: nets.greens(TOWN, 0, 0),
            lambda: nets.greens(TOWN, 0, 3),
            lambda: nets.greens(TOWN, 1, 0),
            lambda: nets.greens(TOWN, 2, 0),
            lambda: states.outside(TOWN_CARS, TOWN_STATE),
            lambda: states.outside((), states.beginning(TOWN)),
        ] + calls_with_lists()
        given = (TOWN, TOWN_CARS, TOWN_STATE, LOOP, LOOP_CARS, LOOP_STATE)
        before = samples.frozen(given)
        for call in calls:
            answer = samples.frozen(call())
            spoil(call())
            self.assertEqual(samples.frozen(call()), answer)
        self.assertEqual(samples.frozen(given), before)

    def test_a_list_of_states_is_left_alone(self):
        told = steps.run(TOWN, TOWN_CARS, 20)
        before = samples.frozen(told)
        for road in range(6):
            spoil(reports.passed(TOWN, TOWN_CARS, told, road, 0))
        self.assertEqual(samples.frozen(told), before)

    def test_a_run_shares_no_list_with_another_one(self):
        one, other = steps.run(TOWN, TOWN_CARS, 20), steps.run(TOWN, TOWN_CARS, 20)
        before = samples.frozen(other)
        spoil(one)
        self.assertEqual(samples.frozen(other), before)


def calls_with_lists():
    """Calls of all functions of steps, causes and reports that return lists, with something in them."""
    return [
        lambda: steps.asking(TOWN, TOWN_CARS, 4, TOWN_STATE[1]),
        lambda: steps.asking(LOOP, LOOP_CARS, 3, LOOP_STATE[1]),
        lambda: steps.let_through(TOWN, TOWN_CARS, 3, TOWN_STATE[1]),
        lambda: steps.let_through(TOWN, TOWN_CARS, 4, TOWN_STATE[1]),
        lambda: steps.let_through(LOOP, LOOP_CARS, 3, LOOP_STATE[1]),
        lambda: steps.run(TOWN, TOWN_CARS, 12),
        lambda: steps.run(LOOP, LOOP_CARS, 12),
        lambda: causes.rings(TOWN, TOWN_CARS, TOWN_STATE),
        lambda: causes.rings(LOOP, LOOP_CARS, LOOP_STATE),
        lambda: reports.passed(TOWN, TOWN_CARS, steps.run(TOWN, TOWN_CARS, 30), 2, 3),
        lambda: reports.passed(LOOP, LOOP_CARS, steps.run(LOOP, LOOP_CARS, 30), 2, 1),
    ]


def spoil(told):
    """Changes all lists in a value."""
    for item in told:
        if isinstance(item, (list, tuple)):
            spoil(item)
    if isinstance(told, list):
        told.append("changed")
        told.reverse()


class FilesTest(unittest.TestCase):
    def test_sizes_and_signs(self):
        for path in sorted(FOLDER.glob("**/*.py")):
            lines = path.read_text(encoding="ascii").split("\n")
            with self.subTest(file=path.name):
                self.assertLessEqual(len(lines), 400)
                self.assertLessEqual(max(len(line) for line in lines), 120)
                self.assertNotIn("\t", "".join(lines))

    def test_functions_are_short(self):
        for path in sorted(FOLDER.glob("**/*.py")):
            for node in ast.walk(ast.parse(path.read_text(encoding="ascii"))):
                if isinstance(node, ast.FunctionDef):
                    with self.subTest(file=path.name, function=node.name):
                        self.assertLessEqual(node.end_lineno - node.lineno + 1, 40)


if __name__ == "__main__":
    unittest.main()
