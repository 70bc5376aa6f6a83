"""[24]: what a worker has by letters, what it guesses, and when it may."""

import unittest

from carfax.teams import Team
from tests.drawn import draw_cars, draw_cutting, draw_net, draw_schedule, draw_state
from tests.samples import state_with
from tests.teamwork import BLOCKED_STATE, MERGE, MERGE_CARS, MERGE_STATE, RING, RING_CARS, finish, mail, work


def merge_team(ahead, until=14, state=MERGE_STATE):
    return Team(MERGE, MERGE_CARS, (0, 1, 2), ahead, state, until)


def run_alone(team, worker):
    """Lets a worker do all that it can do, and returns where it is."""
    while ("work", worker) in team.moves():
        work(team, worker)
    return team.where(worker)


class KindsTest(unittest.TestCase):
    """The guesses."""

    def test_nobody_asks(self):
        # Car 1 has the right of way, but worker 0 does not know of it, and lets car 0 through.
        team = merge_team(1)
        work(team, 0, 2)
        self.assertEqual(team.log(), [(0, 1, 4, "let", 1, ()), (0, 2, 4, "come", 2, ((0, 0, 1, 2, 0),))])

    def test_all_first_cells_are_free(self):
        team = merge_team(1, state=BLOCKED_STATE)
        work(team, 1)
        mail(team, 1, 0)
        work(team, 0, 2)
        self.assertEqual(team.log()[1:], [(0, 1, 4, "let", 1, (0,)), (0, 2, 4, "come", 2, ((0, 1, 1, 2, 0),))])

    def test_first_cells_of_all_lanes(self):
        # Where each of the three cars enters the lane with its own index.
        net = (((3, 4, 2, 0), (3, 4, 2, -1)), ((("order", (0,)), (1,)),))
        cars = ((0, (0, 1)), (0, (0, 1)), (0, (0, 1)))
        state = state_with(net, 0, {(0, lane): ((3, lane, 0, 0),) for lane in range(3)})
        team = Team(net, cars, (0, 1), 1, state, 1)
        work(team, 0, 2)
        self.assertEqual(team.log(), [(0, 1, 0, "come", 1, tuple((lane, lane, 1, 1, 0) for lane in range(3)))])

    def test_no_lane_is_let_through(self):
        # Worker 1 lets car 1 stand, so that it still asks at time 5, with the speed 0.
        team = merge_team(2)
        work(team, 1, 4)
        self.assertEqual(team.log(), [
            (1, 0, 4, "ask", 1, ((0, 1, 1, 2, 0, 2, 0),)), (1, 0, 5, "ask", 1, ((0, 1, 1, 2, 0, 1, 0),)),
        ])

    def test_nobody_comes(self):
        team = merge_team(3)
        work(team, 2, 8)
        self.assertEqual(team.log(), [(2, 0, time, "heads", 2, (-1,)) for time in (4, 5, 6)])
        # The one car there goes on as if the road were its own.
        team = merge_team(3, state=BLOCKED_STATE)
        work(team, 2, 8)
        self.assertEqual(team.log(), [
            (2, 0, 4, "heads", 2, (2,)), (2, 0, 5, "heads", 2, (-1,)), (2, 0, 6, "heads", 2, (-1,)),
        ])


class AheadTest(unittest.TestCase):
    """A guess may be used only at a time before the settled moment plus `ahead`."""

    def test_with_0_nobody_guesses(self):
        team = merge_team(0)
        self.assertEqual(run_alone(team, 0), (4, 1))
        self.assertEqual(run_alone(team, 1), (4, 2))
        self.assertEqual(run_alone(team, 2), (4, 2))
        self.assertEqual(team.moves(), [("mail", 1, 0), ("mail", 2, 0)])

    def test_the_last_time_at_which_guesses_may_be_used(self):
        for ahead in (1, 2, 3, 5, 9):
            team = merge_team(ahead)
            self.assertEqual(run_alone(team, 0), (4 + ahead, 1))
            self.assertEqual(run_alone(team, 1), (4 + ahead, 2))
            self.assertEqual(run_alone(team, 2), (4 + ahead, 2))
            self.assertEqual(team.settled(), 4)

    def test_until_is_less(self):
        for ahead in (10, 11, 50):
            team = merge_team(ahead)
            for worker in range(3):
                self.assertEqual(run_alone(team, worker), (14, 0))

    def test_the_settled_moment_counts(self):
        # When the step of the time 4 is settled, each worker may guess for one time more.
        team = merge_team(1)
        for worker in range(3):
            run_alone(team, worker)
        while team.settled() == 4:
            team.move(len(team.moves()) - 1)
        self.assertEqual(team.settled(), 5)
        self.assertEqual(run_alone(team, 1), (6, 2))

    def test_no_guess_is_needed_where_letters_have_arrived(self):
        team = merge_team(0)
        for worker in (1, 2):
            run_alone(team, worker)
        mail(team, 1, 0)
        work(team, 0)
        self.assertEqual(team.where(0), (4, 1))
        # Of the two letters that it uses, one has arrived: that is not enough.
        self.assertNotIn(("work", 0), team.moves())
        mail(team, 2, 0)
        self.assertIn(("work", 0), team.moves())

    def test_one_letter_of_two_with_a_guess(self):
        # With `ahead` 1 it is enough at time 4, but not at time 5.
        for ahead, stage in ((1, (5, 1)), (2, (6, 1))):
            team = merge_team(ahead)
            work(team, 1, 4 if ahead == 1 else 7)
            mail(team, 1, 0, len([letter for letter in team.log() if letter[0] == 1]))
            self.assertEqual(run_alone(team, 0), stage)

    def test_letters_that_play_no_part_are_needed_too(self):
        # There is no car at all.
        team = Team(MERGE, (), (0, 1, 2), 0, state_with(MERGE, 4, {}), 5)
        self.assertEqual(run_alone(team, 0), (4, 1))
        self.assertEqual(run_alone(team, 1), (4, 2))
        self.assertEqual(run_alone(team, 2), (4, 2))

    def test_who_gets_no_letters_goes_on(self):
        net = (((1, 4, 2, -1), (1, 4, 2, -1)), ())
        team = Team(net, ((0, (0,)), (0, (1,))), (1, 0), 0, state_with(net, 0, {}), 30)
        self.assertEqual(run_alone(team, 1), (30, 0))
        self.assertEqual(team.where(0), (0, 0))
        self.assertEqual(team.moves(), [("work", 0)])

    def test_with_0_nothing_is_ever_taken_back(self):
        for seed in range(40):
            net = draw_net(seed, most_roads=8, cells=8)
            cars = draw_cars(seed, net)
            state = draw_state(seed, net, cars)
            team = Team(net, cars, draw_cutting(seed, net), 0, state, state[0] + 8)
            for number in draw_schedule(seed, 10000):
                if not team.moves():
                    break
                team.move(number % len(team.moves()))
                self.assertEqual(team.taken_back(), 0)
            self.assertEqual(team.moves(), [])
            said = [letter[2:5] for letter in team.log()]
            self.assertEqual(len(said), len(set(said)))


class LastLetterTest(unittest.TestCase):
    """What counts is the last letter that has arrived."""

    def asked_twice(self):
        """A team in which worker 1 has said first that car 1 asks at time 5, too, and then that it has gone."""
        team = merge_team(2)
        work(team, 1, 4)
        mail(team, 1, 0)
        work(team, 0, 3)
        mail(team, 0, 1)
        work(team, 1, 3)
        return team

    def test_before_the_stage_is_done(self):
        team = self.asked_twice()
        self.assertEqual([letter[5] for letter in team.log() if letter[2:5] == (5, "ask", 1)], [
            ((0, 1, 1, 2, 0, 1, 0),), (),
        ])
        mail(team, 1, 0, 2)
        work(team, 0, 2)
        # Car 0 alone asks then.
        self.assertEqual(team.log()[-1], (0, 2, 5, "come", 2, ((0, 0, 1, 1, 0),)))
        self.assertEqual(team.taken_back(), 1)

    def test_the_first_of_two_counts_until_the_other_one_has_arrived(self):
        team = self.asked_twice()
        mail(team, 1, 0)
        work(team, 0, 2)
        self.assertEqual(team.log()[-1], (0, 2, 5, "come", 2, ((0, 1, 1, 1, 0),)))
        self.assertEqual(team.pending(), [(0, 1, 1), (0, 2, 2), (1, 0, 1)])

    def test_a_letter_that_says_what_would_be_guessed_is_a_letter(self):
        team = Team(RING, RING_CARS, (0, 1, 2), 0, state_with(RING, 0, {}), 3)
        for worker in range(3):
            work(team, worker)
            self.assertNotIn(("work", worker), team.moves())
        mail(team, 1, 0)
        self.assertIn(("work", 0), team.moves())
        finish(team)
        self.assertEqual(team.settled(), 3)


if __name__ == "__main__":
    unittest.main()
