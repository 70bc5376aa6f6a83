"""[26] and [28]: the settled moment, and the state there."""

import unittest

from carfax.cuttings import letters_to
from carfax.steps import run, step
from carfax.teams import Team, play
from tests.drawn import draw_cars, draw_cutting, draw_net, draw_schedule, draw_state
from tests.samples import TOWN, TOWN_CARS, state_with
from tests.teamwork import BLOCKED_STATE, MERGE, MERGE_CARS, MERGE_STATE, RING, RING_CARS, finish, mail, plain, work

APART = (((1, 4, 2, -1), (1, 4, 2, -1)), ())


def merge_team(ahead=9, until=7, state=MERGE_STATE):
    return Team(MERGE, MERGE_CARS, (0, 1, 2), ahead, state, until)


class ConditionsTest(unittest.TestCase):
    def test_at_the_beginning(self):
        for state in (MERGE_STATE, BLOCKED_STATE):
            for ahead in (0, 50):
                team = merge_team(ahead, 50, state)
                self.assertEqual((team.settled(), team.state()), (4, state))

    def test_all_workers_are_there(self):
        # They send no letters to each other: the last one of them counts.
        team = Team(APART, ((0, (0,)), (0, (1,))), (0, 1), 0, state_with(APART, 0, {}), 9)
        work(team, 0, 12)
        self.assertEqual((team.where(0), team.settled()), ((4, 0), 0))
        work(team, 1, 2)
        self.assertEqual((team.where(1), team.settled()), ((0, 2), 0))
        work(team, 1)
        self.assertEqual((team.where(1), team.settled()), ((1, 0), 1))
        work(team, 1, 7)
        self.assertEqual((team.where(1), team.settled()), ((3, 1), 3))
        work(team, 1, 8)
        self.assertEqual((team.where(1), team.settled()), ((6, 0), 4))
        work(team, 0, 5)
        self.assertEqual((team.where(0), team.settled()), ((5, 2), 5))

    def test_no_letter_of_a_time_before_it_is_on_its_way(self):
        # All have done three steps by guesses, which are right; the letters of each step are delivered one by one.
        team = Team(MERGE, (), (0, 1, 2), 3, state_with(MERGE, 0, {}), 9)
        for worker in range(3):
            work(team, worker, 9)
        self.assertEqual(team.pending(), [(0, 1, 3), (0, 2, 3), (1, 0, 3), (2, 0, 3)])
        for time in range(3):
            for sender, receiver in ((0, 2), (2, 0), (1, 0)):
                mail(team, sender, receiver)
                self.assertEqual(team.settled(), time)
            mail(team, 0, 1)
            self.assertEqual(team.settled(), time + 1)

    def test_a_letter_of_a_later_time_may_be_on_its_way(self):
        team = Team(MERGE, (), (0, 1, 2), 3, state_with(MERGE, 0, {}), 9)
        for worker in range(3):
            work(team, worker, 9)
        mail(team, 1, 0, 3)
        mail(team, 2, 0, 3)
        mail(team, 0, 1, 3)
        self.assertEqual(team.settled(), 0)
        mail(team, 0, 2)
        self.assertEqual((team.settled(), team.pending()), (1, [(0, 2, 2)]))
        mail(team, 0, 2)
        self.assertEqual((team.settled(), team.pending()), (2, [(0, 2, 1)]))

    def test_it_may_go_on_by_several_steps_at_once(self):
        team = Team(MERGE, (), (0, 1, 1), 5, state_with(MERGE, 0, {}), 9)
        work(team, 0, 15)
        work(team, 1, 13)
        mail(team, 0, 1, 10)
        mail(team, 1, 0, 9)
        self.assertEqual((team.settled(), team.pending()), (4, [(1, 0, 1)]))
        work(team, 1, 2)
        self.assertEqual((team.settled(), team.pending()), (4, [(1, 0, 1)]))
        mail(team, 1, 0)
        self.assertEqual(team.settled(), 5)
        team = Team(APART, (), (0, 1), 0, state_with(APART, 0, {}), 9)
        work(team, 1, 27)
        for stages in range(1, 28):
            work(team, 0)
            self.assertEqual(team.settled(), stages // 3)

    def test_each_worker_has_got_all_letters(self):
        # Worker 2 has done the step of the time 0 by a guess: what comes for it has not been sent yet.
        team = Team(MERGE, (), (0, 1, 2), 1, state_with(MERGE, 0, {}), 9)
        work(team, 1, 3)
        work(team, 2, 3)
        mail(team, 1, 0)
        mail(team, 2, 0)
        work(team, 0)
        self.assertEqual((team.pending(), team.settled()), ([], 0))
        work(team, 0, 2)
        self.assertEqual(([team.where(worker) for worker in range(3)], team.settled()), ([(1, 0)] * 3, 0))
        mail(team, 0, 1)
        self.assertEqual(team.settled(), 0)
        mail(team, 0, 2)
        self.assertEqual((team.pending(), team.settled()), ([], 1))

    def test_a_worker_that_takes_back(self):
        team = merge_team()
        for worker in range(3):
            work(team, worker, 3)
        mail(team, 1, 0)
        self.assertEqual((team.where(0), team.settled()), ((4, 1), 4))
        mail(team, 2, 0)
        work(team, 0, 2)
        self.assertEqual((team.where(0), team.settled()), ((5, 0), 4))
        # Each of the others gets what was guessed before, and then what is so.
        mail(team, 0, 1, 2)
        self.assertEqual(team.where(1), (4, 2))
        work(team, 1)
        mail(team, 0, 2)
        self.assertEqual(team.where(2), (4, 2))
        work(team, 2)
        self.assertEqual((team.pending(), team.settled()), ([(0, 2, 1)], 4))
        mail(team, 0, 2)
        self.assertEqual((team.pending(), team.settled()), ([], 4))
        work(team, 2)
        self.assertEqual(([team.where(worker) for worker in range(3)], team.settled()), ([(5, 0)] * 3, 5))
        self.assertEqual(team.state(), plain(MERGE, MERGE_CARS, MERGE_STATE, 5))

    def test_at_the_end(self):
        for until in (5, 7, 30, 104):
            for ahead in (0, 2, 9):
                team = merge_team(ahead, until)
                finish(team)
                self.assertEqual(team.settled(), until)
                self.assertEqual(team.state(), plain(MERGE, MERGE_CARS, MERGE_STATE, until))


class StateTest(unittest.TestCase):
    def test_what_workers_have_done_since_plays_no_part(self):
        team = merge_team(until=20)
        for worker in range(3):
            work(team, worker, 27)
            self.assertEqual(team.state(), MERGE_STATE)
        team = merge_team(ahead=0, until=20, state=BLOCKED_STATE)
        while team.settled() < 9:
            team.move(0)
        told = team.state()
        self.assertEqual(told, plain(MERGE, MERGE_CARS, BLOCKED_STATE, 9))
        while team.settled() == 9:
            self.assertEqual(team.state(), told)
            team.move(0)

    def test_who_has_arrived_is_ascending_and_has_its_time(self):
        # Cars 2 and 1 arrive on roads of other workers than the first; car 0 had arrived before.
        cars = ((0, (2,)), (0, (1,)), (0, (0,)), (0, (2,)))
        state = state_with(MERGE, 8, {
            (0, 0): ((3, 2, 1, 0),), (1, 0): ((3, 1, 1, 0),), (2, 0): ((3, 3, 0, 0),),
        }, ((0, 5),))
        for cutting in ((0, 1, 2), (2, 1, 0), (1, 0, 0), (0, 0, 0)):
            team = Team(MERGE, cars, cutting, 0, state, 9)
            finish(team)
            self.assertEqual(team.state()[2], ((0, 5), (1, 9), (2, 9)))
            team = Team(MERGE, cars, cutting, 2, state, 12)
            finish(team)
            self.assertEqual(team.state()[2], ((0, 5), (1, 9), (2, 9), (3, 10)))

    def test_rows_are_in_the_order_of_the_roads(self):
        state = state_with(TOWN, 3, {(0, 1): ((4, 0, 2, 0),), (2, 2): ((1, 4, 1, 0),), (4, 0): ((2, 1, 1, 0),)})
        for cutting in ((0, 0, 0, 0, 0, 0), (3, 2, 1, 0, 1, 2), (0, 1, 0, 1, 0, 1), (2, 2, 1, 1, 0, 0)):
            team = Team(TOWN, TOWN_CARS, cutting, 1, state, 9)
            self.assertEqual(team.state(), state)
            finish(team)
            self.assertEqual(team.state(), plain(TOWN, TOWN_CARS, state, 9))


class PlainRunTest(unittest.TestCase):
    """For several cuttings, values of `ahead` and schedules, all states are those of the plain run."""

    def follow(self, team, states, schedule):
        """Plays the team, looking at each settled moment, and returns which ones there were."""
        last = states[0][0]
        found = [last]
        for number in schedule + [0] * 100000:
            moves = team.moves()
            if not moves:
                break
            back = team.taken_back()
            team.move(number % len(moves))
            self.assertGreaterEqual(team.settled(), last)
            if team.taken_back() > back:
                for at in (team.where(told[1]) for told in moves if told[0] == "work"):
                    self.assertGreaterEqual(at, (last, 0))
            last = team.settled()
            found.append(last)
            self.assertEqual(team.state(), states[last - states[0][0]])
        self.assertEqual(last, states[-1][0])
        self.assertEqual(team.pending(), [])
        return found

    def test_a_ring(self):
        states = run(RING, RING_CARS, 25)
        for cutting in ((0, 0, 0), (0, 0, 1), (0, 1, 0), (1, 0, 0), (0, 1, 2), (2, 1, 0), (1, 2, 0)):
            for ahead in (0, 1, 3, 50):
                for seed in range(2):
                    team = Team(RING, RING_CARS, cutting, ahead, states[0], 25)
                    self.follow(team, states, draw_schedule((seed, cutting, ahead), 800 * seed))

    def test_a_town(self):
        states = run(TOWN, TOWN_CARS, 20)
        for cutting in ((0, 0, 0, 1, 1, 1), (0, 1, 2, 3, 2, 1), (3, 2, 1, 0, 0, 0), (1, 0, 1, 0, 1, 0)):
            for ahead in (0, 1, 2, 7):
                team = Team(TOWN, TOWN_CARS, cutting, ahead, states[0], 20)
                self.follow(team, states, draw_schedule((cutting, ahead), 3000))

    def test_drawn(self):
        back = 0
        for seed in range(60):
            kinds = ({}, {"most_roads": 4, "cells": 4}, {"most_roads": 6, "cells": 6})[seed % 3]
            net = draw_net(seed, **kinds)
            cars = draw_cars(seed, net)
            states = [draw_state(seed, net, cars)]
            while len(states) <= 12:
                states.append(step(net, cars, states[-1]))
            for again in range(3):
                cutting = draw_cutting((seed, again), net)
                team = Team(net, cars, cutting, (0, 1, 4, 20)[(seed + again) % 4], states[0], states[-1][0])
                self.follow(team, states, draw_schedule((seed, again), 500 * again))
                back += team.taken_back()
        self.assertGreater(back, 500)

    def test_many_steps(self):
        for seed in (9, 12, 27, 94):
            net = draw_net(seed)
            cars = draw_cars(seed, net)
            states = run(net, cars, 100)
            for ahead in (0, 2):
                team = Team(net, cars, draw_cutting(seed, net), ahead, states[0], 100)
                self.assertGreater(play(team, draw_schedule(seed, 9000)), 1000)
                self.assertEqual(team.state(), states[100])

    def test_at_the_end_all_letters_have_come(self):
        for seed in range(30):
            net = draw_net(seed, most_roads=6, cells=5)
            cars = draw_cars(seed, net)
            cutting = draw_cutting(seed, net)
            state = draw_state(seed, net, cars)
            begin = state[0]
            team = Team(net, cars, cutting, 2, state, begin + 6)
            play(team, draw_schedule(seed, 2000))
            told = {letter[1:5] for letter in team.log()}
            due = {
                (worker, time, kind, road) for worker in range(max(cutting) + 1)
                for time in range(begin, begin + 6) for kind, road in letters_to(net, cutting, worker)
            }
            self.assertEqual(told, due)


if __name__ == "__main__":
    unittest.main()
