"""[27]: the moves of a team, and playing it by a schedule."""

import unittest

from carfax import errors
from carfax.errors import BadMove, TooLong
from carfax.teams import Team, play
from tests.drawn import draw_schedule
from tests.samples import state_with
from tests.teamwork import (
    BLOCKED_STATE, MERGE, MERGE_CARS, MERGE_STATE, RING, RING_CARS, finish, mail, plain, seen, work,
)

APART = (((1, 4, 2, -1), (1, 4, 2, -1)), ())


def merge_team(ahead=2, until=10, state=MERGE_STATE, cutting=(0, 1, 2)):
    return Team(MERGE, MERGE_CARS, cutting, ahead, state, until)


class MovesTest(unittest.TestCase):
    def test_at_the_beginning_all_can_work(self):
        self.assertEqual(merge_team().moves(), [("work", 0), ("work", 1), ("work", 2)])
        self.assertEqual(merge_team(0).moves(), [("work", 0), ("work", 1), ("work", 2)])
        self.assertEqual(merge_team(cutting=(0, 0, 0)).moves(), [("work", 0)])
        team = Team(APART, (), (1, 0), 0, state_with(APART, 0, {}), 1)
        self.assertEqual(team.moves(), [("work", 0), ("work", 1)])

    def test_their_order(self):
        team = merge_team()
        for worker in (2, 1, 0):
            work(team, worker, 2)
        self.assertEqual(team.moves(), [
            ("work", 0), ("work", 1), ("work", 2), ("mail", 0, 1), ("mail", 0, 2), ("mail", 1, 0), ("mail", 2, 0),
        ])

    def test_letters_of_one_pair_are_one_move(self):
        team = merge_team()
        work(team, 2, 5)
        self.assertEqual(team.pending(), [(2, 0, 2)])
        self.assertEqual(team.moves(), [("work", 0), ("work", 1), ("work", 2), ("mail", 2, 0)])

    def test_who_cannot_work_has_no_move(self):
        team = merge_team(0)
        work(team, 0)
        self.assertEqual(team.moves(), [("work", 1), ("work", 2)])
        work(team, 1, 2)
        self.assertEqual(team.moves(), [("work", 2), ("mail", 1, 0)])
        work(team, 2, 2)
        self.assertEqual(team.moves(), [("mail", 1, 0), ("mail", 2, 0)])
        mail(team, 1, 0)
        self.assertEqual(team.moves(), [("mail", 2, 0)])
        mail(team, 2, 0)
        self.assertEqual(team.moves(), [("work", 0)])

    def test_who_is_at_the_end_has_no_move(self):
        team = Team(APART, (), (0, 1), 0, state_with(APART, 0, {}), 2)
        work(team, 0, 6)
        self.assertEqual((team.where(0), team.moves()), ((2, 0), [("work", 1)]))
        work(team, 1, 5)
        self.assertEqual((team.where(1), team.moves()), ((1, 2), [("work", 1)]))
        work(team, 1)
        self.assertEqual((team.where(1), team.moves()), ((2, 0), []))

    def test_letters_are_left_at_the_end(self):
        # All are at the end by their guesses; the letters are still to be delivered.
        team = Team(MERGE, (), (0, 1, 2), 9, state_with(MERGE, 0, {}), 1)
        for worker in range(3):
            work(team, worker, 3)
        self.assertEqual((team.settled(), team.moves()), (
            0, [("mail", 0, 1), ("mail", 0, 2), ("mail", 1, 0), ("mail", 2, 0)],
        ))
        for many in (3, 2, 1, 0):
            team.move(0)
            self.assertEqual((team.settled(), len(team.moves())), (1 if many == 0 else 0, many))

    def test_who_was_at_the_end_and_takes_back(self):
        team = merge_team(until=5)
        work(team, 0, 3)
        self.assertNotIn(("work", 0), team.moves())
        work(team, 1)
        mail(team, 1, 0)
        self.assertIn(("work", 0), team.moves())

    def test_until_1_step(self):
        for ahead in (0, 1, 50):
            team = merge_team(ahead, until=5)
            made = finish(team)
            self.assertEqual((team.settled(), team.state()), (5, plain(MERGE, MERGE_CARS, MERGE_STATE, 5)))
            if ahead == 0:
                # Three stages of each worker, and the four letters.
                self.assertEqual((made, len(team.log())), (13, 4))

    def test_until_100_steps(self):
        for ahead in (0, 1):
            team = merge_team(ahead, until=104)
            made = play(team, [])
            self.assertEqual((team.settled(), team.state()), (104, plain(MERGE, MERGE_CARS, MERGE_STATE, 104)))
            self.assertEqual([team.where(worker) for worker in range(3)], [(104, 0)] * 3)
            if ahead == 0:
                # Three stages of each worker, and the four letters of each step.
                self.assertEqual((made, len(team.log())), (3 * 3 * 100 + 4 * 100, 4 * 100))

    def test_what_holds_where_there_are_no_moves(self):
        for seed in range(20):
            for ahead in (0, 1, 5):
                team = Team(RING, RING_CARS, (0, 1, 2), ahead, state_with(RING, 0, {}), 7)
                for number in draw_schedule((seed, ahead), 20000):
                    moves = team.moves()
                    where = [team.where(worker) for worker in range(3)]
                    ended = where == [(7, 0)] * 3 and team.pending() == [] and team.settled() == 7
                    self.assertEqual(moves == [], ended)
                    self.assertEqual(moves == [], team.settled() == 7)
                    if not moves:
                        break
                    team.move(number % len(moves))
                self.assertEqual(team.moves(), [])


class MoveTest(unittest.TestCase):
    def test_it_returns_nothing(self):
        team = merge_team()
        work(team, 1)
        self.assertIsNone(team.move(0))
        self.assertIsNone(team.move(len(team.moves()) - 1))

    def test_each_index_is_that_of_moves(self):
        team = merge_team()
        for worker in range(3):
            work(team, worker, 2)
        for index, told in enumerate(team.moves()):
            other, same = team.copy(), team.copy()
            other.move(index)
            if told[0] == "work":
                work(same, told[1])
            else:
                mail(same, *told[1:])
            self.assertEqual(seen(other, 3), seen(same, 3))
            self.assertNotEqual(seen(other, 3), seen(team, 3))

    def test_no_move_with_the_index(self):
        team = merge_team()
        for worker in range(3):
            work(team, worker, 2)
        before = seen(team, 3)
        many = len(team.moves())
        for index in (-1, -2, -many, -many - 1, many, many + 1, 10 ** 30, -10 ** 30):
            with self.assertRaises(BadMove):
                team.move(index)
            self.assertEqual(seen(team, 3), before)
        team.move(many - 1)

    def test_at_the_end_there_is_none(self):
        team = merge_team()
        finish(team)
        for index in (0, 1, -1):
            with self.assertRaises(BadMove):
                team.move(index)

    def test_the_class_is_none_of_the_others(self):
        for one in (BadMove, TooLong):
            for name in ("BadNet", "BadCars", "BadState", "BadCutting", "BadMove", "TooLong"):
                other = getattr(errors, name)
                self.assertEqual(issubclass(one, other), one is other)
        try:
            merge_team().move(-1)
        except errors.CarfaxError as error:
            self.assertIs(type(error), BadMove)


def by_hand(team, schedule):
    """Plays a team by a schedule, in the words of the document."""
    made = 0
    for number in schedule:
        moves = team.moves()
        if moves:
            team.move(number % len(moves))
            made += 1
    while team.moves():
        team.move(0)
        made += 1
    return made


class PlayTest(unittest.TestCase):
    def check(self, schedule, until=12):
        for ahead in (0, 1, 4):
            for state in (MERGE_STATE, BLOCKED_STATE):
                team, other = merge_team(ahead, until, state), merge_team(ahead, until, state)
                self.assertEqual(play(team, schedule), by_hand(other, schedule))
                self.assertEqual(seen(team, 3), seen(other, 3))
                self.assertEqual(team.state(), plain(MERGE, MERGE_CARS, state, until))

    def test_an_empty_schedule(self):
        self.check([])

    def test_small_numbers(self):
        self.check([0, 1, 2, 3, 4, 5, 6, 7] * 5)
        self.check(list(range(50)))

    def test_negative_numbers(self):
        self.check([-1] * 60)
        self.check(list(range(-1, -60, -1)))

    def test_great_numbers(self):
        self.check([10 ** 30 + 1, -10 ** 30, 10 ** 100 + 3, 7 ** 50, -7 ** 50] * 10)

    def test_longer_than_the_run(self):
        self.check([1, 5, -3] * 1000)

    def test_drawn_numbers(self):
        for seed in range(10):
            self.check(draw_schedule(seed, 150))

    def test_the_first_moves_by_hand(self):
        # There are 3 moves, then 4 with a letter from worker 2, then 5 with one from worker 1.
        team = merge_team()
        for number, place in ((-1, 2), (4 * 10 ** 9 + 1, 1), (-10, 0)):
            moves = team.moves()
            self.assertEqual(moves[number % len(moves)], ("work", place))
            team.move(number % len(moves))
        other = merge_team()
        schedule = [-1, 4 * 10 ** 9 + 1, -10]
        self.assertEqual(play(other, schedule), play(team, []) + 3)
        self.assertEqual(other.log(), team.log())

    def test_a_team_that_has_begun(self):
        team, other = merge_team(), merge_team()
        for one in (team, other):
            work(one, 2, 4)
        self.assertEqual(play(team, [3, 1, 4, 1, 5]), by_hand(other, [3, 1, 4, 1, 5]))
        self.assertEqual(seen(team, 3), seen(other, 3))

    def test_at_the_end(self):
        team = merge_team()
        play(team, [])
        before = seen(team, 3)
        for schedule in ([], [0], [-5, 10 ** 30]):
            self.assertEqual(play(team, schedule), 0)
            self.assertEqual(seen(team, 3), before)


class TooLongTest(unittest.TestCase):
    """Three workers who guess for 46 steps ahead, and do all of them before they look at a letter."""

    @classmethod
    def setUpClass(cls):
        cars = tuple((car // 2, tuple((car + leg) % 3 for leg in range(6))) for car in range(11))
        cls.team = Team(RING, cars, (0, 1, 2), 46, state_with(RING, 0, {}), 80)
        cls.end = cls.team.copy()
        cls.moves = by_hand(cls.end, [])

    def test_more_than_100000_moves(self):
        self.assertGreater(self.moves, 100000)
        team = self.team.copy()
        with self.assertRaises(TooLong):
            play(team, [])
        # The 100,000 moves are made, and the others are left.
        self.assertNotEqual(team.moves(), [])
        self.assertLess(team.settled(), 80)
        self.assertEqual(play(team, []), self.moves - 100000)
        self.assertEqual(seen(team, 3), seen(self.end, 3))
        self.assertEqual(team.settled(), 80)

    def test_100000_moves_and_one_more(self):
        team = self.team.copy()
        for _ in range(self.moves - 100001):
            team.move(0)
        other = team.copy()
        with self.assertRaises(TooLong):
            play(other, [0] * 200000)
        self.assertEqual(len(other.moves()), 1)
        other.move(0)
        self.assertEqual(seen(other, 3), seen(self.end, 3))
        team.move(0)
        self.assertEqual(play(team, []), 100000)
        self.assertEqual(seen(team, 3), seen(self.end, 3))


if __name__ == "__main__":
    unittest.main()
