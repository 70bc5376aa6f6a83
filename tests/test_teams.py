"""[27] to [29]: teams that begin at a later state, that go on where others have settled, and copies of teams."""

import unittest

from carfax.states import check_state
from carfax.steps import run, step
from carfax.teams import Team, play
from tests.drawn import draw_cars, draw_cutting, draw_net, draw_schedule, draw_state
from tests.samples import LEAST, TOWN, TOWN_CARS, TOWN_STATE, state_with
from tests.teamwork import (
    BLOCKED_STATE, MERGE, MERGE_CARS, MERGE_STATE, RING, RING_CARS, finish, mail, plain, seen, work,
)


def merge_team(ahead=2, until=10, state=MERGE_STATE, cutting=(0, 1, 2)):
    return Team(MERGE, MERGE_CARS, cutting, ahead, state, until)


class BeforeTheFirstMoveTest(unittest.TestCase):
    def test_nothing_has_happened(self):
        team = merge_team()
        self.assertEqual([team.where(worker) for worker in range(3)], [(4, 0)] * 3)
        self.assertEqual((team.settled(), team.state()), (4, MERGE_STATE))
        self.assertEqual((team.log(), team.pending(), team.taken_back()), ([], [], 0))

    def test_the_least_net(self):
        team = Team(LEAST, ((0, (0,)),), (0,), 0, (0, (((),),), ()), 5)
        self.assertEqual(team.moves(), [("work", 0)])
        self.assertEqual(play(team, []), 15)
        self.assertEqual((team.state(), team.log()), ((5, (((),),), ((0, 3),)), []))

    def test_greater_numbers_raise_no_error(self):
        # Somewhat beyond the limits of `ahead` and `until`.
        for ahead, until in ((51, 10), (1000, 30), (0, 110)):
            team = merge_team(ahead, until)
            play(team, [])
            self.assertEqual(team.state(), plain(MERGE, MERGE_CARS, MERGE_STATE, until))

    def test_until_the_time_of_the_state(self):
        team = merge_team(until=4)
        self.assertEqual((team.moves(), team.settled(), play(team, [1, 2])), ([], 4, 0))


class LaterStatesTest(unittest.TestCase):
    def test_each_state_of_a_run(self):
        states = run(TOWN, TOWN_CARS, 30)
        for begin in (0, 1, 2, 7, 13, 29):
            for cutting in ((0, 1, 2, 3, 2, 1), (1, 1, 0, 0, 0, 1)):
                team = Team(TOWN, TOWN_CARS, cutting, 2, states[begin], 30)
                self.assertEqual(team.where(0), (begin, 0))
                play(team, draw_schedule(begin, 500))
                self.assertEqual(team.state(), states[30])
                self.assertTrue(all(begin <= letter[2] < 30 for letter in team.log()))

    def test_states_of_no_run(self):
        for seed in range(60):
            net = draw_net(seed, most_roads=8, cells=6)
            cars = draw_cars(seed, net)
            state = draw_state(seed, net, cars)
            team = Team(net, cars, draw_cutting(seed, net), seed % 4, state, state[0] + 5)
            play(team, draw_schedule(seed, 300))
            self.assertEqual(team.state(), plain(net, cars, state, state[0] + 5))

    def test_a_late_time(self):
        state = (999950,) + TOWN_STATE[1:]
        team = Team(TOWN, TOWN_CARS, (0, 1, 2, 0, 1, 2), 3, state, 1000000)
        play(team, draw_schedule(1, 900))
        self.assertEqual(team.state(), plain(TOWN, TOWN_CARS, state, 1000000))

    def test_lights_go_by_the_time_of_the_state(self):
        # Green for road 1 at the times 0, 1, 5, 6 and so on.
        net = (MERGE[0], ((("lights", ((2, (1,)), (3, ()))), (2,)),))
        cars = ((0, (0, 2)), (0, (1, 2)))
        for time in range(10):
            state = state_with(net, time, {(1, 0): ((3, 1, 0, 0),)}, ((0, 0),))
            team = Team(net, cars, (0, 1, 2), 1, state, time + 1)
            finish(team)
            lets = [letter[5] for letter in team.log() if letter[3] == "let"]
            self.assertEqual(lets[-1], (0,) if time % 5 < 2 else ())


class TakenUpTest(unittest.TestCase):
    """What one team has at a settled moment, another one can take up."""

    def test_with_another_cutting_and_another_ahead(self):
        cuttings = ((0, 1, 2), (0, 0, 1), (2, 1, 0), (0, 0, 0), (1, 0, 1))
        states = run(RING, RING_CARS, 40)
        for seed, cutting in enumerate(cuttings):
            for ahead in (0, 1, 6):
                team = Team(RING, RING_CARS, cutting, ahead, states[0], 40)
                for number in draw_schedule((seed, ahead), 600):
                    moves = team.moves()
                    if moves:
                        team.move(number % len(moves))
                other = Team(RING, RING_CARS, cuttings[seed - 1], 5 - ahead, team.state(), 40)
                self.assertEqual(other.settled(), team.settled())
                play(other, draw_schedule(seed, 100))
                self.assertEqual(other.state(), states[40])
                play(team, [])
                self.assertEqual(team.state(), states[40])

    def test_again_and_again(self):
        for seed in range(20):
            net = draw_net(seed, most_roads=8, cells=6)
            cars = draw_cars(seed, net)
            state = draw_state(seed, net, cars)
            last = plain(net, cars, state, state[0] + 12)
            for again in range(12):
                team = Team(net, cars, draw_cutting((seed, again), net), again % 3, state, state[0] + 1)
                play(team, draw_schedule((seed, again), 40))
                state = team.state()
                check_state(net, cars, state)
            self.assertEqual(state, last)


class CopyTest(unittest.TestCase):
    def begun(self, seed, moves=60):
        team = Team(RING, RING_CARS, (0, 1, 2), 3, state_with(RING, 0, {}), 15)
        for number in draw_schedule(seed, moves):
            team.move(number % len(team.moves()))
        return team

    def test_it_behaves_as_the_team(self):
        for seed in range(15):
            for moves in (0, 1, 20, 60, 90):
                team = self.begun(seed, moves)
                other = team.copy()
                self.assertIs(type(other), Team)
                self.assertIsNot(other, team)
                for number in draw_schedule((seed, moves), 600):
                    self.assertEqual(seen(other, 3), seen(team, 3))
                    if not team.moves():
                        break
                    team.move(number % len(team.moves()))
                    other.move(number % len(other.moves()))
                self.assertEqual(play(other, []), play(team, []))
                self.assertEqual(seen(other, 3), seen(team, 3))

    def test_what_the_team_does_leaves_the_copy_alone(self):
        for seed in range(15):
            team = self.begun(seed)
            other = team.copy()
            before = seen(other, 3)
            play(team, draw_schedule(seed, 100))
            self.assertEqual(seen(other, 3), before)
            self.assertNotEqual(seen(team, 3), before)
            play(other, [])
            self.assertEqual(other.state(), team.state())

    def test_what_the_copy_does_leaves_the_team_alone(self):
        for seed in range(15):
            team = self.begun(seed)
            before = seen(team, 3)
            other = team.copy()
            play(other, draw_schedule(seed, 100))
            self.assertEqual(seen(team, 3), before)
            self.assertNotEqual(seen(other, 3), before)
            play(team, draw_schedule(seed, 100))
            self.assertEqual(seen(team, 3), seen(other, 3))

    def test_each_move_of_the_one_leaves_the_other_alone(self):
        for seed in range(5):
            team = self.begun(seed)
            other = team.copy()
            for number in draw_schedule((seed, "a"), 40):
                before = seen(other, 3)
                team.move(number % len(team.moves()))
                self.assertEqual(seen(other, 3), before)
                team, other = other, team

    def test_a_copy_of_a_copy(self):
        team = self.begun(1)
        other = team.copy().copy()
        self.assertEqual(seen(other, 3), seen(team, 3))
        play(other, [])
        self.assertEqual(play(team, []), play(self.begun(1), []))
        self.assertEqual(seen(other, 3), seen(team, 3))

    def test_at_the_end(self):
        team = merge_team()
        finish(team)
        other = team.copy()
        self.assertEqual((seen(other, 3), play(other, [])), (seen(team, 3), 0))

    def test_letters_that_a_copy_has_got(self):
        # The letter of the team's own has arrived in the copy, too; what arrives later, in one of them only.
        team = merge_team(ahead=0)
        for worker in range(3):
            work(team, worker)
        mail(team, 1, 0)
        other = team.copy()
        mail(other, 2, 0)
        self.assertIn(("work", 0), other.moves())
        self.assertNotIn(("work", 0), team.moves())
        self.assertEqual((team.pending(), other.pending()), ([(2, 0, 1)], []))

    def test_letters_that_a_copy_has_sent(self):
        team = merge_team(state=BLOCKED_STATE)
        work(team, 0, 2)
        other = team.copy()
        work(other, 2)
        mail(other, 2, 0)
        work(other, 0)
        self.assertEqual([letter[5] for letter in other.log() if letter[3] == "come"], [((0, 0, 1, 2, 0),), ()])
        work(team, 1)
        work(team, 2)
        mail(team, 2, 0)
        work(team, 0)
        self.assertEqual([letter[5] for letter in team.log() if letter[3] == "come"], [((0, 0, 1, 2, 0),), ()])
        self.assertEqual((team.taken_back(), other.taken_back()), (1, 1))


class ApartTest(unittest.TestCase):
    def test_two_teams_of_the_same_net(self):
        one, other = merge_team(), merge_team()
        before = seen(other, 3)
        play(one, draw_schedule(1, 50))
        self.assertEqual(seen(other, 3), before)
        play(other, draw_schedule(1, 50))
        self.assertEqual(seen(other, 3), seen(one, 3))

    def test_questions_change_nothing(self):
        team, other = merge_team(), merge_team()
        for number in draw_schedule(4, 400):
            self.assertEqual(seen(team, 3), seen(team, 3))
            if not team.moves():
                break
            team.move(number % len(team.moves()))
        play(other, draw_schedule(4, 400))
        self.assertEqual(seen(team, 3), seen(other, 3))

    def test_the_run_of_another_state(self):
        state = step(MERGE, MERGE_CARS, BLOCKED_STATE)
        for begin in (MERGE_STATE, BLOCKED_STATE, state):
            team = merge_team(state=begin, until=9)
            play(team, [])
            self.assertEqual(team.state(), plain(MERGE, MERGE_CARS, begin, 9))


if __name__ == "__main__":
    unittest.main()
