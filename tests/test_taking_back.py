"""[25]: letters arrive, and what they make their receivers take back."""

import unittest

from carfax.teams import Team, play
from tests.drawn import draw_cars, draw_cutting, draw_net, draw_schedule, draw_state
from tests.samples import state_with
from tests.teamwork import BLOCKED_STATE, MERGE, MERGE_CARS, MERGE_STATE, RING, RING_CARS, finish, mail, plain, work


def merge_team(ahead=9, until=10, state=MERGE_STATE):
    return Team(MERGE, MERGE_CARS, (0, 1, 2), ahead, state, until)


def places(team):
    return [team.where(worker) for worker in range(3)]


class OrderTest(unittest.TestCase):
    def test_the_oldest_letter_first(self):
        team = merge_team(ahead=3)
        work(team, 1, 9)
        work(team, 2, 9)
        self.assertEqual(team.pending(), [(1, 0, 3), (2, 0, 3)])
        mail(team, 2, 0)
        self.assertEqual(team.pending(), [(1, 0, 3), (2, 0, 2)])
        mail(team, 1, 0, 2)
        self.assertEqual(team.pending(), [(1, 0, 1), (2, 0, 2)])
        # It knows what is asked at the times 4 and 5, so that car 1, not car 0, is let through.
        work(team, 0, 5)
        self.assertEqual(team.log()[-2:], [(0, 1, 5, "let", 1, (0,)), (0, 2, 5, "come", 2, ((0, 1, 1, 1, 0),))])

    def test_of_one_stage(self):
        # "let" was sent before "come": the first letter that is delivered is the former.
        team = Team(MERGE, MERGE_CARS, (0, 1, 1), 9, MERGE_STATE, 6)
        work(team, 1, 3)
        mail(team, 1, 0)
        work(team, 0, 2)
        self.assertEqual([letter[3] for letter in team.log() if letter[0] == 0], ["let", "come"])
        mail(team, 0, 1)
        self.assertEqual((team.where(1), team.taken_back()), ((4, 2), 1))
        work(team, 1)
        self.assertEqual(team.where(1), (5, 0))
        mail(team, 0, 1)
        self.assertEqual((team.where(1), team.taken_back()), ((4, 2), 2))

    def test_pairs_are_apart(self):
        team = merge_team()
        work(team, 1, 4)
        work(team, 2, 4)
        work(team, 0, 2)
        self.assertEqual(team.pending(), [(0, 1, 1), (0, 2, 1), (1, 0, 2), (2, 0, 2)])
        mail(team, 0, 2)
        self.assertEqual(team.pending(), [(0, 1, 1), (1, 0, 2), (2, 0, 2)])
        mail(team, 1, 0)
        self.assertEqual(team.pending(), [(0, 1, 1), (1, 0, 1), (2, 0, 2)])
        self.assertEqual(team.moves()[-3:], [("mail", 0, 1), ("mail", 1, 0), ("mail", 2, 0)])


class SameTest(unittest.TestCase):
    """Letters that say what was used."""

    def test_what_was_guessed(self):
        team = Team(MERGE, (), (0, 1, 2), 9, state_with(MERGE, 4, {}), 7)
        for worker in range(3):
            work(team, worker, 9)
        where = places(team)
        while team.pending():
            sender, receiver, _ = team.pending()[0]
            mail(team, sender, receiver)
            self.assertEqual(places(team), where)
        self.assertEqual(team.taken_back(), 0)

    def test_what_was_read(self):
        # The second "come" for time 4 says again that nobody comes: it is used already.
        team = merge_team(state=BLOCKED_STATE)
        work(team, 2)
        mail(team, 2, 0)
        work(team, 0, 2)
        self.assertEqual(team.log()[-1], (0, 2, 4, "come", 2, ()))
        work(team, 2, 5)
        mail(team, 0, 2)
        self.assertEqual((team.where(2), team.taken_back()), ((6, 0), 0))


class OtherTest(unittest.TestCase):
    """Letters that say something else than what was used."""

    def test_where_the_worker_is_then(self):
        for stages in range(2, 12):
            team = merge_team()
            work(team, 1)
            work(team, 0, stages)
            mail(team, 1, 0)
            self.assertEqual(team.where(0), (4, 1))
            self.assertEqual(team.taken_back(), 1)
        for stages in range(3, 12):
            team = merge_team()
            work(team, 1, stages)
            mail(team, 1, 0)
            work(team, 0, 2)
            mail(team, 0, 1)
            self.assertEqual(team.where(1), (4, 2))
            self.assertEqual(team.taken_back(), 1)
            work(team, 2, stages)
            mail(team, 0, 2)
            self.assertEqual(places(team), [(4, 2), (4, 2), (4, 2)])
            self.assertEqual(team.taken_back(), 2)

    def test_heads(self):
        team = merge_team(state=BLOCKED_STATE)
        work(team, 2)
        work(team, 0, 7)
        mail(team, 2, 0)
        self.assertEqual((places(team), team.taken_back()), ([(4, 1), (4, 0), (4, 1)], 1))

    def test_a_later_time(self):
        # "ask" for time 4 has arrived; what is asked for time 5 takes back no further than to that time.
        team = merge_team()
        work(team, 1, 4)
        mail(team, 1, 0)
        work(team, 0, 9)
        mail(team, 1, 0)
        self.assertEqual((team.where(0), team.taken_back()), ((5, 1), 1))

    def test_a_stage_that_is_not_done_yet(self):
        # The letter is just kept for it.
        for stages in (0, 1):
            team = merge_team()
            work(team, 1)
            if stages:
                work(team, 0, stages)
            mail(team, 1, 0)
            self.assertEqual((team.where(0), team.taken_back()), ((4, stages), 0))
            work(team, 0, 2 - stages)
            self.assertEqual(team.log()[-2], (0, 1, 4, "let", 1, (0,)))
        for stages in (0, 1, 2):
            team = merge_team()
            work(team, 1)
            mail(team, 1, 0)
            work(team, 0, 2)
            if stages:
                work(team, 2, stages)
            mail(team, 0, 2)
            self.assertEqual((team.where(2), team.taken_back()), ((4, stages), 0))

    def test_a_stage_that_was_taken_back_is_not_done(self):
        # The second letter is of a time at which worker 0 is no longer.
        team = merge_team()
        work(team, 1, 4)
        work(team, 0, 9)
        mail(team, 1, 0)
        self.assertEqual((team.where(0), team.taken_back()), ((4, 1), 1))
        mail(team, 1, 0)
        self.assertEqual((team.where(0), team.taken_back()), ((4, 1), 1))

    def test_what_a_letter_says_that_plays_no_part(self):
        # The light is red, so that it makes no difference what is asked; but it is something else.
        net = (MERGE[0], ((("lights", ((9, ()),)), (2,)),))
        team = Team(net, MERGE_CARS, (0, 1, 2), 9, state_with(net, 4, {(1, 0): ((3, 1, 1, 0),)}), 6)
        work(team, 1)
        work(team, 0, 4)
        sent = team.log()
        mail(team, 1, 0)
        self.assertEqual((team.where(0), team.taken_back()), ((4, 1), 1))
        work(team, 0, 3)
        self.assertEqual(team.log(), sent)

    def test_each_letter_counts_that_takes_back(self):
        team = merge_team(state=BLOCKED_STATE)
        work(team, 1)
        work(team, 2)
        for many, sender in ((1, 1), (2, 2)):
            work(team, 0, 5)
            mail(team, sender, 0)
            self.assertEqual((team.where(0), team.taken_back()), ((4, 1), many))
        # It is not counted how many stages are taken back, nor what is said that is used already.
        team = merge_team(state=BLOCKED_STATE)
        work(team, 1, 4)
        mail(team, 1, 0)
        work(team, 0, 2)
        mail(team, 0, 1)
        self.assertEqual(team.taken_back(), 1)


class KnownThenTest(unittest.TestCase):
    """What the worker knows when it has taken back."""

    def test_its_roads_are_as_they_were(self):
        # Having taken back, worker 0 does what it does if the letter is there from the first on.
        for state in (MERGE_STATE, BLOCKED_STATE):
            team = merge_team(state=state)
            work(team, 1)
            work(team, 0, 7)
            mail(team, 1, 0)
            work(team, 0, 6)
            other = merge_team(state=state)
            work(other, 1)
            mail(other, 1, 0)
            work(other, 0, 7)
            self.assertEqual(team.where(0), other.where(0))
            self.assertEqual(said_last(team), said_last(other))

    def test_cars_enter_again(self):
        # Car 0 enters road 1, and again when worker 1 has taken back: it is not taken for one that has entered.
        cars = ((2, (1, 2)), (0, (1, 2)))
        state = state_with(MERGE, 0, {(1, 0): ((3, 1, 0, 0),)})
        team = Team(MERGE, cars, (0, 1, 2), 9, state, 8)
        work(team, 1, 22)
        mail(team, 1, 0)
        work(team, 0, 2)
        mail(team, 0, 1)
        self.assertEqual(team.where(1), (0, 2))
        work(team, 1, 20)
        self.assertEqual(team.where(1), (7, 1))
        # It has entered at time 3, and stands in the last cell from time 5 on.
        self.assertEqual(team.log()[-1], (1, 0, 7, "ask", 1, ((0, 0, 1, 2, 0, 1, 0),)))
        finish(team)
        self.assertEqual(team.state(), plain(MERGE, cars, state, 8))

    def test_cars_leave_again(self):
        # Car 0 leaves the net from road 2, and again when worker 2 has taken back: it has arrived once.
        cars = ((0, (2,)), (0, (0, 2)))
        state = state_with(MERGE, 0, {(0, 0): ((3, 1, 0, 0),), (2, 0): ((4, 0, 0, 0),)})
        team = Team(MERGE, cars, (0, 1, 2), 9, state, 3)
        work(team, 2, 9)
        work(team, 0, 2)
        mail(team, 0, 2, 1)
        self.assertEqual((team.where(2), team.taken_back()), ((0, 2), 1))
        finish(team)
        self.assertEqual(team.state(), state_with(MERGE, 3, {}, ((0, 1), (1, 3))))

    def test_letters_that_have_arrived_are_not_forgotten(self):
        # With `ahead` 1, worker 0 has all letters for time 5 when it takes back to time 4: it needs them again there.
        team = merge_team(ahead=1)
        work(team, 1, 4)
        work(team, 2, 4)
        work(team, 0, 3)
        mail(team, 2, 0, 2)
        mail(team, 1, 0)
        self.assertEqual(team.where(0), (4, 1))
        mail(team, 1, 0)
        self.assertEqual(team.pending(), [(0, 1, 1), (0, 2, 1)])
        work(team, 0, 5)
        self.assertEqual(team.where(0), (6, 0))
        self.assertEqual(team.settled(), 4)
        # Then it is taken back once more, and can go on as before.
        mail(team, 0, 1, 2)
        work(team, 1, 2)
        mail(team, 1, 0)
        self.assertEqual(team.where(0), (5, 1))
        work(team, 0, 2)
        self.assertEqual(team.where(0), (6, 0))

    def test_what_has_been_sent_is_not_forgotten(self):
        # Nothing of it is sent again, and all of it stays on its way.
        team = merge_team(state=state_with(MERGE, 4, {(1, 0): ((3, 1, 1, 0),)}))
        work(team, 1, 18)
        self.assertEqual(team.pending(), [(1, 0, 6)])
        mail(team, 1, 0)
        work(team, 0, 2)
        mail(team, 0, 1)
        self.assertEqual((team.where(1), team.pending()), ((4, 2), [(0, 2, 1), (1, 0, 5)]))
        work(team, 1, 16)
        self.assertEqual([letter[5] for letter in team.log() if letter[2:5] == (5, "ask", 1)], [
            ((0, 1, 1, 2, 0, 1, 0),), (),
        ])
        self.assertEqual(team.pending(), [(0, 2, 1), (1, 0, 10)])


def said_last(team):
    """What each log says in the end for each time, kind and road of worker 0."""
    return {letter[2:5]: letter[5] for letter in team.log() if letter[0] == 0}


class DrawnTest(unittest.TestCase):
    def test_only_letters_take_back_and_only_to_their_stage(self):
        back = 0
        for seed in range(80):
            net = draw_net(seed, most_roads=6, cells=5)
            cars = draw_cars(seed, net)
            state = draw_state(seed, net, cars)
            cutting = draw_cutting(seed, net)
            team = Team(net, cars, cutting, 4, state, state[0] + 6)
            on_way = {}
            for number in draw_schedule(seed, 400):
                moves = team.moves()
                if not moves:
                    break
                chosen = moves[number % len(moves)]
                before = [team.where(worker) for worker in range(max(cutting) + 1)]
                count, sent = team.taken_back(), len(team.log())
                team.move(number % len(moves))
                after = [team.where(worker) for worker in range(max(cutting) + 1)]
                for letter in team.log()[sent:]:
                    on_way.setdefault(letter[:2], []).append(letter)
                if chosen[0] == "work":
                    time, stage = before[chosen[1]]
                    before[chosen[1]] = (time + stage // 2, (stage + 1) % 3)
                else:
                    letter = on_way[chosen[1:]].pop(0)
                    if team.taken_back() > count:
                        stage = (letter[2], 1 if letter[3] in ("ask", "heads") else 2)
                        self.assertGreater(before[letter[1]], stage)
                        before[letter[1]] = stage
                        back += 1
                        self.assertEqual(team.taken_back(), count + 1)
                self.assertEqual(after, before)
        self.assertGreater(back, 100)


class RingTest(unittest.TestCase):
    def test_the_same_end_with_and_without_taking_back(self):
        ends = []
        for ahead in (0, 1, 3, 30):
            team = Team(RING, RING_CARS, (0, 1, 2), ahead, state_with(RING, 0, {}), 30)
            play(team, draw_schedule(ahead, 3000))
            ends.append((team.state(), {letter[2:5]: letter[5] for letter in team.log()}))
            self.assertEqual(team.taken_back() > 0, ahead > 0)
        self.assertEqual(ends, ends[:1] * 4)


if __name__ == "__main__":
    unittest.main()
