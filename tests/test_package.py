"""[1], [2] and the interface: names, arguments, files, and that nothing is modified or kept."""

import ast
import inspect
import pathlib
import unittest

from carfax import causes, cuttings, errors, judges, nets, reports, states, steps, teams
from tests import samples
from tests.samples import LEAST, TOWN, TOWN_CARS, TOWN_STATE
from tests.teamwork import MERGE, MERGE_CARS, MERGE_STATE, plain

FOLDER = pathlib.Path(errors.__file__).parent

# Cars 0 to 3 stand in a ring, and car 4 waits outside; car 6 is behind car 5, which asks to enter road 3.
LOOP = (
    ((1, 2, 1, 0), (1, 2, 1, 1), (1, 3, 2, 2), (1, 3, 2, -1)),
    ((("order", (0,)), (1,)), (("order", (1,)), (0,)), (("order", (2,)), (3,))),
)
LOOP_CARS = ((0, (0, 1, 0)), (0, (0, 1)), (0, (1, 0)), (0, (1, 0)), (0, (0,)), (0, (2, 3)), (0, (2, 3)))
LOOP_STATE = (3, ((((0, 0, 0, 0), (1, 1, 0, 0)),), (((0, 2, 0, 0), (1, 3, 0, 0)),), (
    ((1, 6, 1, 0), (2, 5, 1, 0)),), ((),)), ())

INTERFACE = [
    (nets, "check_net", ["value"]),
    (nets, "check_cars", ["net", "value"]),
    (nets, "ends", ["net"]),
    (nets, "greens", ["net", "crossing", "time"]),
    (states, "beginning", ["net"]),
    (states, "check_state", ["net", "cars", "value"]),
    (states, "place", ["state", "car"]),
    (states, "room", ["net", "state", "road", "lane", "at"]),
    (states, "outside", ["cars", "state"]),
    (steps, "changed", ["net", "cars", "state"]),
    (steps, "asking", ["net", "cars", "time", "rows"]),
    (steps, "let_through", ["net", "cars", "time", "rows"]),
    (steps, "step", ["net", "cars", "state"]),
    (steps, "run", ["net", "cars", "until"]),
    (causes, "cause", ["net", "cars", "state", "car"]),
    (causes, "rings", ["net", "cars", "state"]),
    (reports, "passed", ["net", "cars", "states", "road", "cell"]),
    (reports, "counts", ["cars", "state"]),
    (cuttings, "check_cutting", ["net", "value"]),
    (cuttings, "owner", ["net", "cutting", "crossing"]),
    (cuttings, "letters_to", ["net", "cutting", "worker"]),
    (cuttings, "letters_from", ["net", "cutting", "worker"]),
    (teams, "play", ["team", "schedule"]),
    (judges, "agrees", ["net", "cars", "cutting", "state", "until", "log", "worker"]),
]

TEAM_METHODS = {
    "__init__": ["net", "cars", "cutting", "ahead", "state", "until"],
    "moves": [],
    "move": ["index"],
    "where": ["worker"],
    "settled": [],
    "state": [],
    "log": [],
    "pending": [],
    "taken_back": [],
    "copy": [],
}

CLASSES = ["CarfaxError", "BadNet", "BadCars", "BadState", "BadCutting", "BadMove", "TooLong"]


class InterfaceTest(unittest.TestCase):
    def test_functions_have_their_arguments(self):
        for module, name, arguments in INTERFACE:
            with self.subTest(name=name):
                function = getattr(module, name)
                self.assertTrue(inspect.isfunction(function))
                self.assertEqual(list(inspect.signature(function).parameters), arguments)

    def test_each_is_defined_in_its_file(self):
        for module, name, _ in INTERFACE:
            with self.subTest(name=name):
                self.assertEqual(getattr(module, name).__module__, module.__name__)
                self.assertEqual(inspect.getsourcefile(getattr(module, name)), inspect.getsourcefile(module))
        for name in CLASSES:
            with self.subTest(name=name):
                self.assertTrue(inspect.isclass(getattr(errors, name)))
                self.assertEqual(getattr(errors, name).__module__, "carfax.errors")

    def test_the_methods_of_a_team(self):
        self.assertTrue(inspect.isclass(teams.Team))
        self.assertEqual(teams.Team.__module__, "carfax.teams")
        for name, arguments in TEAM_METHODS.items():
            with self.subTest(name=name):
                # In the class itself, not only in a base class.
                self.assertTrue(inspect.isfunction(vars(teams.Team)[name]))
                told = list(inspect.signature(vars(teams.Team)[name]).parameters)
                self.assertEqual(told, ["self"] + arguments)

    def test_arguments_by_their_names_in_teams(self):
        self.assertIsNone(cuttings.check_cutting(net=MERGE, value=(0, 1, 2)))
        self.assertEqual(cuttings.owner(net=MERGE, cutting=(2, 1, 0), crossing=0), 2)
        self.assertEqual(cuttings.letters_to(net=MERGE, cutting=(0, 1, 2), worker=1), [("let", 1)])
        self.assertEqual(cuttings.letters_from(net=MERGE, cutting=(0, 1, 2), worker=1), [("ask", 1)])
        team = teams.Team(net=MERGE, cars=MERGE_CARS, cutting=(0, 1, 2), ahead=1, state=MERGE_STATE, until=6)
        self.assertIsNone(team.move(index=1))
        self.assertEqual(team.where(worker=1), (4, 1))
        self.assertGreater(teams.play(team=team, schedule=[1, 2]), 10)
        told = {"net": MERGE, "cars": MERGE_CARS, "cutting": (0, 1, 2), "state": MERGE_STATE, "until": 6}
        self.assertTrue(judges.agrees(log=team.log(), worker=2, **told))

    def test_arguments_by_their_names(self):
        self.assertIsNone(nets.check_net(value=TOWN))
        self.assertIsNone(nets.check_cars(net=TOWN, value=TOWN_CARS))
        self.assertEqual(nets.ends(net=LEAST), [])
        self.assertEqual(nets.greens(net=TOWN, crossing=1, time=0), [2, 4])
        self.assertEqual(states.beginning(net=LEAST), (0, (((),),), ()))
        self.assertIsNone(states.check_state(net=TOWN, cars=TOWN_CARS, value=TOWN_STATE))
        self.assertEqual(states.place(state=TOWN_STATE, car=5), (1, 0, 4))
        self.assertEqual(states.room(net=TOWN, state=TOWN_STATE, road=2, lane=1, at=0), 5)
        self.assertEqual(states.outside(cars=TOWN_CARS, state=TOWN_STATE), [1, 3])
        rows = steps.changed(net=TOWN, cars=TOWN_CARS, state=TOWN_STATE)
        self.assertEqual(rows, TOWN_STATE[1])
        self.assertEqual(steps.asking(net=TOWN, cars=TOWN_CARS, time=4, rows=rows), [(5, 1, 0, 3, 0)])
        self.assertEqual(steps.let_through(net=TOWN, cars=TOWN_CARS, time=4, rows=rows), ([(5, 1, 0, 3, 0)], []))
        self.assertEqual(steps.step(net=TOWN, cars=(), state=states.beginning(TOWN))[0], 1)
        self.assertEqual(steps.run(net=TOWN, cars=TOWN_CARS, until=0), [states.beginning(TOWN)])
        self.assertEqual(causes.cause(net=TOWN, cars=TOWN_CARS, state=TOWN_STATE, car=5), ("light", 0))
        self.assertEqual(causes.rings(net=TOWN, cars=TOWN_CARS, state=TOWN_STATE), [])
        self.assertEqual(reports.passed(net=TOWN, cars=TOWN_CARS, states=[TOWN_STATE], road=0, cell=0), [])
        self.assertEqual(reports.counts(cars=TOWN_CARS, state=TOWN_STATE), (2, 5, 1))


class NothingIsModifiedTest(unittest.TestCase):
    def test_checks_leave_their_arguments_alone(self):
        values = [
            TOWN, TOWN_CARS, TOWN_STATE, samples.GREATEST,
            samples.lists_for_tuples(TOWN),
            samples.lists_for_tuples(TOWN_CARS),
            samples.lists_for_tuples(TOWN_STATE),
            ([(1, 2, 1, -1)], []), (TOWN[0], [TOWN[1][0]]), [(50, [4, 5, 3])],
            (6, [[[(2, 2, 0, 0)]]], [(7, 5), (1, 2)]), [3, 1, 2], ([3, 1, 2], [2, 1]),
        ]
        for value in values:
            before = samples.frozen(value)
            for check in (
                nets.check_net,
                lambda told: nets.check_cars(TOWN, told),
                lambda told: states.check_state(TOWN, TOWN_CARS, told),
            ):
                try:
                    check(value)
                except errors.CarfaxError:
                    pass
                self.assertEqual(samples.frozen(value), before)

    def test_lists_in_a_wrong_value_are_left_alone(self):
        for path, node in samples.spots(TOWN):
            if isinstance(node, tuple):
                value = samples.put(TOWN, path, list(node)[::-1])
                before = samples.frozen(value)
                with self.assertRaises(errors.BadNet):
                    nets.check_net(value)
                self.assertEqual(samples.frozen(value), before)

    def test_answers_do_not_depend_on_earlier_calls(self):
        other = (((1, 2, 1, -1), (2, 3, 4, 0)), ((("lights", ((2, ()), (3, (1,)))), (0,)),))
        calls = [
            lambda: nets.ends(TOWN),
            lambda: nets.ends(other),
            lambda: nets.greens(TOWN, 0, 3),
            lambda: nets.greens(other, 0, 3),
            lambda: nets.greens(TOWN, 0, 4),
            lambda: nets.greens(TOWN, 1, 4),
            lambda: states.beginning(TOWN),
            lambda: states.beginning(other),
            lambda: states.place(TOWN_STATE, 0),
            lambda: states.place((0, ((()),), ()), 0),
            lambda: states.outside(TOWN_CARS, TOWN_STATE),
            lambda: states.outside(TOWN_CARS, states.beginning(TOWN)),
            lambda: states.room(TOWN, TOWN_STATE, 2, 1, 0),
            lambda: states.room(TOWN, TOWN_STATE, 2, 1, 1),
        ] + calls_with_lists() + [
            lambda: steps.changed(TOWN, TOWN_CARS, TOWN_STATE),
            lambda: steps.changed(LOOP, LOOP_CARS, LOOP_STATE),
            lambda: steps.step(TOWN, TOWN_CARS, TOWN_STATE),
            lambda: steps.step(TOWN, TOWN_CARS[:7], TOWN_STATE[:2] + ((),)),
            lambda: steps.step(LOOP, LOOP_CARS, LOOP_STATE),
            lambda: steps.run(TOWN, TOWN_CARS[:4], 30),
            lambda: causes.cause(TOWN, TOWN_CARS, TOWN_STATE, 5),
            lambda: causes.cause(LOOP, LOOP_CARS, LOOP_STATE, 5),
            lambda: causes.cause(LOOP, LOOP_CARS, LOOP_STATE, 4),
            lambda: reports.counts(TOWN_CARS, TOWN_STATE),
            lambda: reports.counts(LOOP_CARS, LOOP_STATE),
        ]
        first = [samples.frozen(call()) for call in calls]
        self.assertEqual([samples.frozen(call()) for call in calls], first)
        self.assertEqual([samples.frozen(call()) for call in calls[::-1]], first[::-1])

    def test_a_wrong_value_leaves_nothing_behind(self):
        for _ in range(2):
            with self.assertRaises(errors.BadNet):
                nets.check_net((TOWN[0], TOWN[1] * 3))
            self.assertIsNone(nets.check_net(TOWN))
            with self.assertRaises(errors.BadCars):
                nets.check_cars(LEAST, TOWN_CARS)
            self.assertIsNone(nets.check_cars(TOWN, TOWN_CARS))
            with self.assertRaises(errors.BadState):
                states.check_state(TOWN, (), TOWN_STATE)
            self.assertIsNone(states.check_state(TOWN, TOWN_CARS, TOWN_STATE))

    def test_lists_belong_to_the_caller(self):
        calls = [
            lambda: nets.ends(TOWN),
            lambda: nets.greens(TOWN, 0, 0),
            lambda: nets.greens(TOWN, 0, 3),
            lambda: nets.greens(TOWN, 1, 0),
            lambda: nets.greens(TOWN, 2, 0),
            lambda: states.outside(TOWN_CARS, TOWN_STATE),
            lambda: states.outside((), states.beginning(TOWN)),
        ] + calls_with_lists()
        given = (TOWN, TOWN_CARS, TOWN_STATE, LOOP, LOOP_CARS, LOOP_STATE)
        before = samples.frozen(given)
        for call in calls:
            answer = samples.frozen(call())
            spoil(call())
            self.assertEqual(samples.frozen(call()), answer)
        self.assertEqual(samples.frozen(given), before)

    def test_a_list_of_states_is_left_alone(self):
        told = steps.run(TOWN, TOWN_CARS, 20)
        before = samples.frozen(told)
        for road in range(6):
            spoil(reports.passed(TOWN, TOWN_CARS, told, road, 0))
        self.assertEqual(samples.frozen(told), before)

    def test_a_run_shares_no_list_with_another_one(self):
        one, other = steps.run(TOWN, TOWN_CARS, 20), steps.run(TOWN, TOWN_CARS, 20)
        before = samples.frozen(other)
        spoil(one)
        self.assertEqual(samples.frozen(other), before)


def calls_with_lists():
    """Calls of all functions of steps, causes and reports that return lists, with something in them."""
    return [
        lambda: steps.asking(TOWN, TOWN_CARS, 4, TOWN_STATE[1]),
        lambda: steps.asking(LOOP, LOOP_CARS, 3, LOOP_STATE[1]),
        lambda: steps.let_through(TOWN, TOWN_CARS, 3, TOWN_STATE[1]),
        lambda: steps.let_through(TOWN, TOWN_CARS, 4, TOWN_STATE[1]),
        lambda: steps.let_through(LOOP, LOOP_CARS, 3, LOOP_STATE[1]),
        lambda: steps.run(TOWN, TOWN_CARS, 12),
        lambda: steps.run(LOOP, LOOP_CARS, 12),
        lambda: causes.rings(TOWN, TOWN_CARS, TOWN_STATE),
        lambda: causes.rings(LOOP, LOOP_CARS, LOOP_STATE),
        lambda: reports.passed(TOWN, TOWN_CARS, steps.run(TOWN, TOWN_CARS, 30), 2, 3),
        lambda: reports.passed(LOOP, LOOP_CARS, steps.run(LOOP, LOOP_CARS, 30), 2, 1),
    ]


def spoil(told):
    """Changes all lists in a value."""
    for item in told:
        if isinstance(item, (list, tuple)):
            spoil(item)
    if isinstance(told, list):
        told.append("changed")
        told.reverse()


def begun(moves=40):
    """A team in the middle of its run."""
    team = teams.Team(MERGE, MERGE_CARS, (0, 1, 2), 3, MERGE_STATE, 12)
    for number in range(moves):
        team.move(7 * number % len(team.moves()))
    return team


class TeamsTest(unittest.TestCase):
    """[1] for cuttings, teams and judges."""

    def test_lists_belong_to_the_caller(self):
        team = begun()
        calls = [
            team.moves, team.log, team.pending,
            lambda: cuttings.letters_to(MERGE, (0, 1, 2), 0),
            lambda: cuttings.letters_from(MERGE, (0, 1, 2), 0),
        ]
        other = team.copy()
        for call in calls:
            answer = samples.frozen(call())
            self.assertGreater(len(call()), 0)
            spoil(call())
            self.assertEqual(samples.frozen(call()), answer)
        for one in (team, other):
            self.assertEqual(one.moves(), begun().moves())
            self.assertEqual(one.log(), begun().log())
            self.assertEqual(one.pending(), begun().pending())
        self.assertEqual(teams.play(team, []), teams.play(begun(), []))
        self.assertEqual(team.state(), plain(MERGE, MERGE_CARS, MERGE_STATE, 12))

    def test_lists_of_a_team_stay_as_they_were(self):
        # What was returned does not change when the team goes on.
        team = begun()
        told = [team.moves(), team.log(), team.pending()]
        before = samples.frozen(told)
        teams.play(team, [])
        self.assertEqual(samples.frozen(told), before)

    def test_all_of_a_state_are_tuples(self):
        team = begun()
        told = [team.state(), team.log()]
        teams.play(team, [])
        told += [team.state(), team.log()]
        for value in told:
            for part in value:
                self.assertNotIn("list", samples.frozen(part))

    def test_arguments_stay_as_they_were(self):
        schedule = [5, -3, 10 ** 20] * 30
        log = begun(0)
        teams.play(log, [])
        log = log.log()
        given = (MERGE, MERGE_CARS, (0, 1, 2), MERGE_STATE, schedule, log)
        before = samples.frozen(given)
        team = begun(0)
        teams.play(team, schedule)
        self.assertEqual(samples.frozen(given), before)
        for worker in range(3):
            judges.agrees(MERGE, MERGE_CARS, (0, 1, 2), MERGE_STATE, 12, log, worker)
            judges.agrees(MERGE, MERGE_CARS, (0, 1, 2), MERGE_STATE, 12, log[::-1][:9], worker)
            cuttings.letters_to(MERGE, (0, 1, 2), worker)
            cuttings.letters_from(MERGE, (0, 1, 2), worker)
        cuttings.owner(MERGE, (0, 1, 2), 0)
        self.assertEqual(samples.frozen(given), before)
        for value in ([0, 1, 2], (0, [1], 2), [[0], 1]):
            before = samples.frozen(value)
            with self.assertRaises(errors.BadCutting):
                cuttings.check_cutting(MERGE, value)
            self.assertEqual(samples.frozen(value), before)

    def test_a_schedule_and_a_log_may_change_later(self):
        schedule = [5, -3, 10 ** 20] * 30
        team, other = begun(0), begun(0)
        made = teams.play(team, schedule)
        schedule.clear()
        self.assertEqual(teams.play(other, [5, -3, 10 ** 20] * 30), made)
        self.assertEqual(team.log(), other.log())

    def test_answers_do_not_depend_on_earlier_calls(self):
        log = begun(0)
        teams.play(log, [])
        log = log.log()
        calls = [
            lambda: cuttings.check_cutting(MERGE, (0, 1, 2)),
            lambda: cuttings.owner(MERGE, (0, 1, 2), 0),
            lambda: cuttings.owner(MERGE, (1, 0, 0), 0),
            lambda: cuttings.owner(TOWN, (1, 0, 0, 0, 0, 0), 1),
            lambda: cuttings.letters_to(MERGE, (0, 1, 2), 0),
            lambda: cuttings.letters_to(MERGE, (0, 1, 1), 0),
            lambda: cuttings.letters_from(TOWN, (0, 1, 1, 0, 0, 1), 0),
            lambda: begun(0).moves(),
            lambda: begun().log(),
            lambda: begun(50).pending(),
            lambda: begun(50).state(),
            lambda: teams.play(begun(), [1, 2, 3]),
            lambda: judges.agrees(MERGE, MERGE_CARS, (0, 1, 2), MERGE_STATE, 12, log, 0),
            lambda: judges.agrees(MERGE, MERGE_CARS, (0, 1, 2), MERGE_STATE, 12, log[1:], 0),
        ]
        first = [samples.frozen(call()) for call in calls]
        self.assertEqual([samples.frozen(call()) for call in calls], first)
        self.assertEqual([samples.frozen(call()) for call in calls[::-1]], first[::-1])


class FilesTest(unittest.TestCase):
    def test_sizes_and_signs(self):
        for path in sorted(FOLDER.glob("**/*.py")):
            lines = path.read_text(encoding="ascii").split("\n")
            with self.subTest(file=path.name):
                self.assertLessEqual(len(lines), 400)
                self.assertLessEqual(max(len(line) for line in lines), 120)
                self.assertNotIn("\t", "".join(lines))

    def test_functions_are_short(self):
        for path in sorted(FOLDER.glob("**/*.py")):
            for node in ast.walk(ast.parse(path.read_text(encoding="ascii"))):
                if isinstance(node, ast.FunctionDef):
                    with self.subTest(file=path.name, function=node.name):
                        self.assertLessEqual(node.end_lineno - node.lineno + 1, 40)


if __name__ == "__main__":
    unittest.main()
