"""Teams of workers that do a run together: they send each other letters, guess, and take back."""

from carfax.cuttings import letters_due
from carfax.errors import BadMove, TooLong
from carfax.stages import Share
from carfax.workers import new_worker

MOST_MOVES = 100000


class Team:
    """A team that does the run from a sound state on up to the time `until`."""

    def __init__(self, net, cars, cutting, ahead, state, until):
        many = max(cutting) + 1
        self._given = (net, cars, cutting, ahead, state, until)
        self._cutting = cutting
        self._ahead = ahead
        self._until = until
        self._workers = [new_worker(Share(net, cars, cutting, worker), state) for worker in range(many)]
        self._receivers = {(kind, road): receiver for kind, road, _, receiver in letters_due(net, cutting)}
        self._letters = []
        self._on_way = {(sender, receiver): [] for sender in range(many) for receiver in range(many)}
        self._times_on_way = {time: 0 for time in range(state[0], until)}
        self._settled_time = state[0]
        self._times_taken_back = 0

    def moves(self):
        """Return the list of the moves that can be made."""
        bound = self._settled_time + self._ahead
        found = []
        for number, worker in enumerate(self._workers):
            time, stage = worker.where()
            if time < self._until and (time < bound or worker.has_got(time, stage)):
                found.append(("work", number))
        found.extend([("mail", sender, receiver) for sender, receiver, _ in self.pending()])
        return found

    def move(self, index):
        """Make the move with the index; raise BadMove if there is none."""
        found = self.moves()
        if not 0 <= index < len(found):
            raise BadMove("there is no move with the index")
        self.make(found[index])

    def make(self, chosen):
        """Make one of the moves."""
        if chosen[0] == "work":
            self.let_work(chosen[1])
        else:
            self.deliver(chosen[1], chosen[2])
        self.settle()

    def let_work(self, number):
        """Let a worker do its next stage, and send its letters."""
        news = self._workers[number].work()
        for time, kind, road, what in news:
            letter = (number, self._receivers[(kind, road)], time, kind, road, what)
            self._letters.append(letter)
            self._on_way[letter[:2]].append(letter)
            self._times_on_way[time] += 1

    def deliver(self, sender, receiver):
        """Deliver the oldest letter that is on its way from the one worker to the other."""
        _, _, time, kind, road, what = self._on_way[(sender, receiver)].pop(0)
        self._times_on_way[time] -= 1
        if self._workers[receiver].receive(time, kind, road, what):
            self._times_taken_back += 1

    def settle(self):
        """Let the settled moment be as late as it can be."""
        while self._settled_time < self._until and self.is_over(self._settled_time):
            self._settled_time += 1

    def is_over(self, time):
        """Tell whether the step from the time on is settled, if those before it are."""
        # Who is behind a step has sent all letters of it, so that all have arrived if none is on its way.
        return self._times_on_way[time] == 0 and all(worker.where()[0] > time for worker in self._workers)

    def where(self, worker):
        """Return the pair of the time at which the worker is and the stage that is next."""
        return self._workers[worker].where()

    def settled(self):
        """Return the time of the settled moment."""
        return self._settled_time

    def state(self):
        """Return the state at the settled moment."""
        time = self._settled_time
        known = [worker.known_at(time) for worker in self._workers]
        rows = [known[worker].lanes[road] for road, worker in enumerate(self._cutting)]
        arrived = [pair for told in known for pair in told.arrived]
        return (time, tuple(rows), tuple(sorted(arrived)))

    def log(self):
        """Return the list of all letters in the order in which they were sent."""
        return list(self._letters)

    def pending(self):
        """Return the ascending list of the tuples of a sender, a receiver, and how many letters are on their way."""
        return [(pair[0], pair[1], len(letters)) for pair, letters in self._on_way.items() if letters]

    def taken_back(self):
        """Return how many letters have made a worker take back."""
        return self._times_taken_back

    def copy(self):
        """Return a team that behaves as this one, independent of it."""
        net, cars, cutting, ahead, state, until = self._given
        twin = Team(net, cars, cutting, ahead, state, until)
        twin._workers = [worker.copy() for worker in self._workers]
        twin._letters = list(self._letters)
        twin._on_way = {pair: list(letters) for pair, letters in self._on_way.items()}
        twin._times_on_way = {time: many for time, many in self._times_on_way.items()}
        twin._settled_time = self._settled_time
        twin._times_taken_back = self._times_taken_back
        return twin


def play(team, schedule):
    """Play the team by the schedule to its end, and return the number of moves.

    Raise TooLong if there are moves left after the most that are made.
    """
    for made in range(MOST_MOVES):
        found = team.moves()
        if not found:
            return made
        turn = schedule[made] % len(found) if made < len(schedule) else 0
        team.make(found[turn])
    if team.moves():
        raise TooLong("there are moves left after 100,000")
    return MOST_MOVES
