"""[22] and [23]: what workers send, and what they do in the three stages of a step."""

import unittest

from carfax.cuttings import letters_from, letters_to
from carfax.nets import check_cars, check_net
from carfax.states import beginning, check_state
from carfax.teams import Team
from tests.drawn import draw_cars, draw_cutting, draw_net, draw_state
from tests.samples import state_with
from tests.teamwork import BLOCKED_STATE, MERGE, MERGE_CARS, MERGE_STATE, RING, RING_CARS, finish, mail, plain, work

# Roads 0 and 1 end at crossing 0, where roads 2 and 3 begin; these end at crossing 1, where roads 0 and 1 begin.
WIDE = (
    ((2, 3, 2, 0), (3, 3, 2, 0), (3, 3, 2, 1), (2, 3, 2, 1)),
    ((("lights", ((2, (0, 1)),)), (2, 3)), (("order", (3, 2)), (0, 1))),
)

WIDE_CARS = ((0, (0, 2)), (0, (1, 2)), (0, (1, 3)), (0, (3, 0)), (0, (2, 1)), (0, (2, 1)))

# Nobody changes lanes here: car 0 and car 1 want to go to road 2, car 2 to road 3, and cars 4 and 5 to road 1.
WIDE_STATE = state_with(WIDE, 0, {
    (0, 1): ((2, 0, 1, 0),),
    (1, 0): ((2, 1, 0, 0),), (1, 2): ((2, 2, 2, 0),),
    (2, 1): ((2, 4, 1, 0),), (2, 2): ((0, 5, 0, 0),),
    (3, 0): ((0, 3, 0, 0),),
})

# As MERGE, with a road 3 that has the right of way over all others.
THREE = (
    ((1, 4, 2, 0), (1, 4, 2, 0), (1, 5, 3, -1), (1, 4, 2, 0)),
    ((("order", (3, 1, 0)), (2,)),),
)

# As MERGE, but all roads begin at the crossing.
ROUND = (MERGE[0], ((("order", (1, 0)), (0, 1, 2)),))


def merge_team(ahead=0, until=7, state=MERGE_STATE):
    return Team(MERGE, MERGE_CARS, (0, 1, 2), ahead, state, until)


def by_what(letter):
    return letter[2:5]


class SamplesTest(unittest.TestCase):
    def test_they_are_sound(self):
        for net, cars in ((MERGE, MERGE_CARS), (RING, RING_CARS), (WIDE, WIDE_CARS), (THREE, ()), (ROUND, ())):
            check_net(net)
            check_cars(net, cars)
        check_state(MERGE, MERGE_CARS, MERGE_STATE)
        check_state(MERGE, MERGE_CARS, BLOCKED_STATE)
        check_state(WIDE, WIDE_CARS, WIDE_STATE)


class StagesTest(unittest.TestCase):
    def test_where_a_worker_is(self):
        team = merge_team()
        self.assertEqual([team.where(worker) for worker in range(3)], [(4, 0)] * 3)
        work(team, 1)
        self.assertEqual([team.where(worker) for worker in range(3)], [(4, 0), (4, 1), (4, 0)])
        work(team, 1)
        self.assertEqual(team.where(1), (4, 2))
        work(team, 2, 2)
        work(team, 0)
        mail(team, 1, 0)
        mail(team, 2, 0)
        work(team, 0)
        mail(team, 0, 1)
        work(team, 1)
        self.assertEqual([team.where(worker) for worker in range(3)], [(4, 2), (5, 0), (4, 2)])

    def test_what_each_stage_sends(self):
        team = merge_team()
        work(team, 1)
        told = [(1, 0, 4, "ask", 1, ((0, 1, 1, 2, 0, 2, 0),))]
        self.assertEqual(team.log(), told)
        work(team, 1)
        self.assertEqual(team.log(), told)
        work(team, 2)
        told += [(2, 0, 4, "heads", 2, (-1,))]
        self.assertEqual(team.log(), told)
        work(team, 2)
        work(team, 0)
        self.assertEqual(team.log(), told)
        mail(team, 1, 0)
        mail(team, 2, 0)
        work(team, 0)
        told += [(0, 1, 4, "let", 1, (0,)), (0, 2, 4, "come", 2, ((0, 1, 1, 2, 0),))]
        self.assertEqual(team.log(), told)
        work(team, 0)
        self.assertEqual(team.log(), told)
        mail(team, 0, 1)
        work(team, 1)
        self.assertEqual(team.log(), told)

    def test_all_letters_of_a_run(self):
        team = merge_team()
        finish(team)
        self.assertEqual(sorted(team.log(), key=by_what), [
            (1, 0, 4, "ask", 1, ((0, 1, 1, 2, 0, 2, 0),)),
            (0, 2, 4, "come", 2, ((0, 1, 1, 2, 0),)),
            (2, 0, 4, "heads", 2, (-1,)),
            (0, 1, 4, "let", 1, (0,)),
            (1, 0, 5, "ask", 1, ()),
            (0, 2, 5, "come", 2, ((0, 0, 1, 1, 0),)),
            (2, 0, 5, "heads", 2, (-1,)),
            (0, 1, 5, "let", 1, ()),
            (1, 0, 6, "ask", 1, ((0, 3, 1, 2, 0, 2, 0),)),
            (0, 2, 6, "come", 2, ()),
            (2, 0, 6, "heads", 2, (0,)),
            (0, 1, 6, "let", 1, ()),
        ])
        self.assertEqual(team.state(), state_with(
            MERGE, 7, {(1, 0): ((3, 3, 0, 0),), (2, 0): ((2, 0, 2, 1),)}, ((1, 7), (2, 3)),
        ))

    def test_all_letters_with_a_car_in_the_way(self):
        team = merge_team(until=6, state=BLOCKED_STATE)
        finish(team)
        self.assertEqual(sorted(team.log(), key=by_what), [
            (1, 0, 4, "ask", 1, ((0, 1, 1, 2, 0, 2, 0),)),
            (0, 2, 4, "come", 2, ()),
            (2, 0, 4, "heads", 2, (2,)),
            (0, 1, 4, "let", 1, ()),
            (1, 0, 5, "ask", 1, ((0, 1, 1, 2, 0, 1, 0),)),
            (0, 2, 5, "come", 2, ((0, 1, 1, 1, 0),)),
            (2, 0, 5, "heads", 2, (-1,)),
            (0, 1, 5, "let", 1, (0,)),
        ])

    def test_where_nothing_is_so(self):
        team = Team(WIDE, (), (0, 1, 2, 1), 0, beginning(WIDE), 1)
        finish(team)
        for sender, receiver, time, kind, road, what in team.log():
            self.assertEqual(what, (-1,) * WIDE[0][road][0] if kind == "heads" else ())
        due = [("ask", 1), ("ask", 3), ("come", 0), ("come", 1), ("come", 2), ("come", 3)]
        due += [("heads", 0), ("heads", 1), ("heads", 2), ("heads", 3), ("let", 1), ("let", 3)]
        self.assertEqual(sorted(letter[3:5] for letter in team.log()), due)

    def test_a_car_that_leaves_does_not_ask(self):
        cars = ((0, (1,)), (0, (2,)))
        state = state_with(MERGE, 0, {(1, 0): ((3, 0, 1, 0),), (2, 0): ((4, 1, 1, 0),)})
        team = Team(MERGE, cars, (0, 1, 2), 0, state, 1)
        finish(team)
        self.assertEqual(sorted(team.log()), [
            (0, 1, 0, "let", 1, ()), (0, 2, 0, "come", 2, ()),
            (1, 0, 0, "ask", 1, ()), (2, 0, 0, "heads", 2, (-1,)),
        ])
        self.assertEqual(team.state(), state_with(MERGE, 1, {}, ((0, 1), (1, 1))))

    def test_letters_tell_what_is_behind_the_changes_of_lane(self):
        # At time 1, all cars but the front car 3 go from lane 0 to lane 1, where car 2 is the front car.
        net = (((2, 4, 3, 0), (2, 4, 3, 0)), ((("order", (0, 1)), (0, 1)),))
        cars = ((0, (1,)), (0, (1,)), (0, (1, 0)), (0, (1, 0)))
        state = state_with(net, 1, {(1, 0): ((0, 0, 1, 0), (1, 1, 0, 0), (2, 2, 2, 0), (3, 3, 0, 0))})
        team = Team(net, cars, (0, 1), 0, state, 2)
        work(team, 1)
        self.assertEqual(team.log(), [
            (1, 0, 1, "ask", 1, ((0, 3, 1, 0, 0, 1, 0), (1, 2, 1, 0, 1, 3, 1))),
            (1, 0, 1, "heads", 1, (-1, 0)),
        ])


class LettersTest(unittest.TestCase):
    """The form and the order of the letters of a stage."""

    def test_ask_and_heads(self):
        # All letters of the one kind come first, whoever gets them.
        team = Team(WIDE, WIDE_CARS, (0, 1, 2, 1), 0, WIDE_STATE, 1)
        work(team, 1)
        self.assertEqual(team.log(), [
            (1, 0, 0, "ask", 1, ((0, 1, 1, 2, 0, 1, 0), (2, 2, 1, 3, 1, 2, 0))),
            (1, 2, 0, "ask", 3, ()),
            (1, 2, 0, "heads", 1, (-1, -1, -1)),
            (1, 0, 0, "heads", 3, (3, -1)),
        ])
        work(team, 2)
        self.assertEqual(team.log()[4:], [(2, 0, 0, "heads", 2, (-1, -1, 5))])

    def test_let_and_come(self):
        # Car 0 is gone through before car 1, but enters a greater lane; car 2 enters the last lane.
        team = Team(WIDE, WIDE_CARS, (0, 1, 2, 1), 0, WIDE_STATE, 1)
        for worker in (1, 2, 0):
            work(team, worker)
        self.assertEqual(team.log()[5:], [(0, 2, 0, "heads", 0, (-1, -1))])
        mail(team, 1, 0, 2)
        mail(team, 2, 0)
        work(team, 0)
        self.assertEqual(team.log()[6:], [
            (0, 1, 0, "let", 1, (0, 2)),
            (0, 2, 0, "come", 2, ((0, 1, 1, 1, 0), (1, 0, 1, 2, 0))),
            (0, 1, 0, "come", 3, ((1, 2, 1, 2, 0),)),
        ])
        mail(team, 1, 2, 2)
        mail(team, 0, 2)
        work(team, 2)
        self.assertEqual(team.log()[9:], [
            (2, 1, 0, "let", 3, ()),
            (2, 0, 0, "come", 0, ()),
            (2, 1, 0, "come", 1, ((1, 4, 1, 2, 0),)),
        ])

    def test_leg_want_and_room(self):
        # On its third leg, with the speed 1, in the last cell but one: it wants to go 2 cells, one of them ahead.
        cars = ((0, (1, 2, 0, 1)),)
        team = Team(RING, cars, (1, 0, 0), 0, state_with(RING, 8, {(0, 1): ((1, 0, 1, 2),)}), 9)
        work(team, 1)
        work(team, 0)
        mail(team, 0, 1)
        work(team, 1)
        self.assertEqual(team.log(), [
            (1, 0, 8, "heads", 0, (-1, -1)), (0, 1, 8, "heads", 1, (-1,)), (1, 0, 8, "come", 1, ((0, 0, 3, 2, 1),)),
        ])
        # On its second leg, with the speed 2.
        net = (((1, 4, 3, 0), (1, 4, 3, 0)), ((("order", (0, 1)), (0, 1)),))
        team = Team(net, ((0, (0, 1, 0)),), (0, 1), 0, state_with(net, 8, {(1, 0): ((2, 0, 2, 1),)}), 9)
        work(team, 1)
        self.assertEqual(team.log()[0], (1, 0, 8, "ask", 1, ((0, 0, 2, 0, 0, 3, 1),)))

    def test_a_road_that_leads_to_itself(self):
        net = (((1, 4, 3, 0), (1, 4, 3, 0)), ((("order", (0, 1)), (0, 1)),))
        state = state_with(net, 8, {(1, 0): ((0, 1, 0, 0), (3, 0, 2, 1))})
        cars = ((0, (0, 1, 1)), (0, (1,)))
        team = Team(net, cars, (0, 1), 0, state, 9)
        finish(team)
        self.assertEqual(sorted(team.log(), key=by_what), [
            (1, 0, 8, "ask", 1, ((0, 0, 2, 1, 0, 3, 0),)), (0, 1, 8, "come", 1, ()),
            (1, 0, 8, "heads", 1, (1,)), (0, 1, 8, "let", 1, ()),
        ])


class SentOnceTest(unittest.TestCase):
    """A letter that says the same as the last one is not sent again."""

    def test_only_what_has_changed(self):
        # By a guess car 0 is let through; then it is told that cell 0 is taken, which changes nothing for road 1.
        team = merge_team(ahead=1, state=BLOCKED_STATE)
        work(team, 0, 3)
        self.assertEqual(team.log(), [(0, 1, 4, "let", 1, ()), (0, 2, 4, "come", 2, ((0, 0, 1, 2, 0),))])
        work(team, 2)
        mail(team, 2, 0)
        self.assertEqual(team.where(0), (4, 1))
        work(team, 0)
        self.assertEqual(team.log()[2:], [(2, 0, 4, "heads", 2, (2,)), (0, 2, 4, "come", 2, ())])
        # Nor does it change anything that car 1 asks.
        work(team, 1)
        mail(team, 1, 0)
        self.assertEqual(team.where(0), (4, 1))
        work(team, 0)
        self.assertEqual(team.log()[4:], [(1, 0, 4, "ask", 1, ((0, 1, 1, 2, 0, 2, 0),))])

    def test_what_was_sent_before_the_last_one_is_sent_again(self):
        team = merge_team(ahead=3, state=BLOCKED_STATE)
        work(team, 1, 4)
        mail(team, 1, 0)
        work(team, 0, 2)
        mail(team, 0, 1)
        work(team, 1, 3)
        work(team, 2)
        mail(team, 2, 0)
        work(team, 0)
        mail(team, 0, 1)
        work(team, 1, 3)
        asked = [letter[5] for letter in team.log() if letter[2:5] == (5, "ask", 1)]
        self.assertEqual(asked, [((0, 1, 1, 2, 0, 1, 0),), (), ((0, 1, 1, 2, 0, 1, 0),)])
        lets = [letter[5] for letter in team.log() if letter[2:5] == (4, "let", 1)]
        self.assertEqual(lets, [(0,), ()])
        self.assertEqual(team.taken_back(), 3)

    def test_another_time_is_something_else(self):
        team = merge_team(until=7, state=state_with(MERGE, 4, {}))
        finish(team)
        told = [letter for letter in team.log() if letter[3] in ("ask", "let")]
        self.assertEqual([letter[2:] for letter in sorted(told, key=by_what)], [
            (time, kind, 1, ()) for time in (4, 5, 6) for kind in ("ask", "let")
        ])


class PassedOverTest(unittest.TestCase):
    """What can be only where guesses are wrong."""

    def test_a_lane_whose_front_car_does_not_ask(self):
        # Worker 1 guesses that car 1 stays, so that it asks again at time 5; it is let through at both times.
        team = merge_team(ahead=3)
        work(team, 1, 5)
        self.assertEqual(team.log()[-1], (1, 0, 5, "ask", 1, ((0, 1, 1, 2, 0, 1, 0),)))
        mail(team, 1, 0, 2)
        work(team, 0, 5)
        self.assertEqual([letter[2:] for letter in team.log() if letter[3] == "let"], [
            (4, "let", 1, (0,)), (5, "let", 1, (0,)),
        ])
        mail(team, 0, 1, 2)
        self.assertEqual(team.where(1), (4, 2))
        work(team, 1, 2)
        self.assertEqual(team.log()[-1], (1, 0, 5, "ask", 1, ()))
        # At time 5, car 3 is the front car, and does not ask. It has moved on, and asks at time 6.
        work(team, 1, 3)
        self.assertEqual(team.where(1), (6, 1))
        self.assertEqual(team.log()[-1], (1, 0, 6, "ask", 1, ((0, 3, 1, 2, 0, 2, 0),)))
        team.state()
        finish(team)
        self.assertEqual(team.state(), plain(MERGE, MERGE_CARS, MERGE_STATE, 7))

    def test_a_lane_without_a_car(self):
        cars = ((0, (0, 2)), (0, (1, 2)))
        state = state_with(MERGE, 0, {(1, 0): ((3, 1, 1, 0),)})
        team = Team(MERGE, cars, (0, 1, 2), 2, state, 2)
        work(team, 1, 4)
        mail(team, 1, 0, 2)
        work(team, 0, 5)
        mail(team, 0, 1, 2)
        self.assertEqual([letter[5] for letter in team.log() if letter[3] == "let"], [(0,), (0,)])
        work(team, 1, 4)
        self.assertEqual(team.where(1), (2, 0))
        finish(team)
        self.assertEqual(team.state(), plain(MERGE, cars, state, 2))

    def test_a_front_car_that_leaves_the_net(self):
        # Car 1 goes at time 0; car 2, the front car at time 1, leaves the net; car 3 is behind it, and stays.
        cars = ((0, (0, 2)), (0, (1, 2)), (0, (1,)), (0, (1,)))
        state = state_with(MERGE, 0, {(1, 0): ((0, 3, 0, 0), (2, 2, 1, 0), (3, 1, 0, 0))})
        team = Team(MERGE, cars, (0, 1, 2), 3, state, 3)
        work(team, 1, 4)
        mail(team, 1, 0, 2)
        work(team, 0, 5)
        self.assertEqual([letter[5] for letter in team.log() if letter[3] == "let"], [(0,), (0,)])
        mail(team, 0, 1, 2)
        work(team, 1, 5)
        self.assertEqual(team.where(1), (2, 1))
        finish(team)
        self.assertEqual(team.state(), plain(MERGE, cars, state, 3))

    def test_a_car_that_comes_where_cell_0_is_not_free(self):
        team = merge_team(ahead=3, state=BLOCKED_STATE)
        work(team, 0, 2)
        self.assertEqual(team.log()[-1], (0, 2, 4, "come", 2, ((0, 0, 1, 2, 0),)))
        mail(team, 0, 2)
        work(team, 2, 4)
        # Car 2 has moved on to cell 1; car 0 would be behind it, in cell 0.
        self.assertEqual(team.log()[-1], (2, 0, 5, "heads", 2, (-1,)))
        finish(team)
        self.assertEqual(team.state(), plain(MERGE, MERGE_CARS, BLOCKED_STATE, 7))

    def test_a_worker_may_have_a_car_twice(self):
        # Car 1 is let through until it is told that car 0, on road 3, asks, which has the right of way.
        cars = ((0, (3, 2)), (0, (1, 2)))
        state = state_with(THREE, 2, {(3, 0): ((3, 0, 1, 0),), (1, 0): ((3, 1, 0, 0),)})
        team = Team(THREE, cars, (0, 1, 1, 2), 9, state, 4)
        work(team, 1)
        mail(team, 1, 0)
        work(team, 0, 2)
        work(team, 2)
        mail(team, 2, 0)
        work(team, 0)
        told = [letter[2:] for letter in team.log() if letter[:2] == (0, 1)]
        self.assertEqual(told, [
            (2, "let", 1, (0,)), (2, "come", 2, ((0, 1, 1, 1, 0),)),
            (2, "let", 1, ()), (2, "come", 2, ((0, 0, 1, 2, 0),)),
        ])
        mail(team, 0, 1, 3)
        work(team, 1, 3)
        self.assertEqual([letter[2:] for letter in team.log()][-2:], [
            (3, "ask", 1, ((0, 1, 1, 2, 0, 1, 0),)), (3, "heads", 2, (1,)),
        ])
        mail(team, 0, 1)
        self.assertEqual(team.where(1), (2, 2))
        finish(team)
        self.assertEqual(team.state(), plain(THREE, cars, state, 4))


class OwnRoadsTest(unittest.TestCase):
    """Of the states, a worker uses only what is on its own roads and which of its cars have entered and left."""

    def test_other_roads_play_no_part(self):
        seen = 0
        for seed in range(150):
            net = draw_net(seed, most_roads=6, cells=6)
            cars = draw_cars(seed, net)
            cutting = draw_cutting(seed, net)
            state = draw_state(seed, net, cars)
            for worker in range(max(cutting) + 1):
                other = changed_elsewhere(net, cars, cutting, state, worker)
                check_state(net, cars, other)
                told = [all_said(Team(net, cars, cutting, 50, begin, state[0] + 6), worker) for begin in (state, other)]
                self.assertEqual(told[0], told[1])
                seen += other != state and len(told[0]) > 0
        self.assertGreater(seen, 50)

    def test_who_has_entered_and_who_has_left_counts(self):
        # Worker 1 has road 1 alone, on which both cars begin; the first one that is outside enters.
        cars = ((0, (1, 2)), (0, (1, 2)))
        for told, arrived, what in (
            ({}, (), (0,)),
            ({(2, 0): ((3, 0, 0, 1),)}, (), (1,)),
            ({}, ((0, 1),), (1,)),
            ({(2, 0): ((3, 0, 0, 1),)}, ((1, 1),), (-1,)),
        ):
            team = Team(ROUND, cars, (0, 1, 0), 9, state_with(ROUND, 4, told, arrived), 6)
            work(team, 1, 4)
            self.assertIn((1, 0, 5, "heads", 1, what), team.log())


def changed_elsewhere(net, cars, cutting, state, worker):
    """A state that is the same for the worker: on other roads, all cars stand in other cells, or are somewhere else."""
    time, rows, arrived = state
    told = {}
    for road, lanes in enumerate(rows):
        for lane, row in enumerate(lanes):
            if cutting[road] == worker:
                told[road, lane] = row
                continue
            new = []
            for cell, car, speed, leg in row:
                way = cars[car][1]
                if worker not in (cutting[way[0]], cutting[way[-1]]) and car % 2 == 0:
                    continue
                new.append((len(new), car, 5 - speed, leg))
            told[road, lane] = tuple(new)
    return state_with(net, time, told, arrived)


def all_said(team, worker):
    """What a worker says that gets no letters."""
    while ("work", worker) in team.moves():
        work(team, worker)
    return team.log()


class OrderTest(unittest.TestCase):
    def test_drawn(self):
        """The letters of a stage are those that are due, by kind and road."""
        for seed in range(60):
            net = draw_net(seed)
            cutting = draw_cutting(seed, net)
            team = Team(net, draw_cars(seed, net), cutting, 0, beginning(net), 3)
            while team.moves():
                chosen = team.moves()[0]
                sent = len(team.log())
                if chosen[0] == "mail":
                    team.move(0)
                    self.assertEqual(len(team.log()), sent)
                    continue
                worker = chosen[1]
                stage = team.where(worker)[1]
                team.move(0)
                due = letters_from(net, cutting, worker)
                expected = [
                    pair for kind in (("ask", "heads"), ("let", "come"), ())[stage] for pair in due if pair[0] == kind
                ]
                new = team.log()[sent:]
                self.assertEqual([letter[3:5] for letter in new], expected)
                for sender, receiver, _, kind, road, _ in new:
                    self.assertEqual(sender, worker)
                    self.assertIn((kind, road), letters_to(net, cutting, receiver))


if __name__ == "__main__":
    unittest.main()
