"""A worker of a team: where it is, what letters it has got and sent, and how it takes back."""

from carfax.stages import STAGES, known_at_first, known_behind

USED_IN = {"ask": 1, "heads": 1, "let": 2, "come": 2}


class Worker:
    """A worker with its share of a net, from the time `start` on.

    `known` has what it knew before each stage that it has done, and what it knows now.
    """

    def __init__(self, share, start, known):
        self.share = share
        self.start = start
        self.known = known
        self.got = {}
        self.sent = {}

    def copy(self):
        """Return a worker that behaves as this one, independent of it."""
        twin = Worker(self.share, self.start, list(self.known))
        twin.got = {key: self.got[key] for key in self.got}
        twin.sent = {key: self.sent[key] for key in self.sent}
        return twin

    def where(self):
        """Return the pair of the time and the stage that is next."""
        steps, stage = divmod(len(self.known) - 1, STAGES)
        return (self.start + steps, stage)

    def known_at(self, time):
        """Return what it knew before the first stage of the time."""
        return self.known[STAGES * (time - self.start)]

    def has_got(self, time, stage):
        """Tell whether it has got a letter for all that it uses in the stage."""
        return all((time, kind, road) in self.got for kind, road in self.share.uses[stage])

    def believed(self, time, kind, road):
        """Return what it has by letters, or else guesses."""
        guess = (-1,) * self.share.net[0][road][0] if kind == "heads" else ()
        return self.got.get((time, kind, road), guess)

    def work(self):
        """Do the next stage, and return the tuples (time, kind, road, what) of the letters that are to be sent."""
        time, stage = self.where()
        letters = {(kind, road): self.believed(time, kind, road) for kind, road in self.share.uses[stage]}
        known = known_behind(self.share, time, stage, self.known[-1], letters)
        self.known.append(known)
        news = []
        for kind, road in self.share.tells[stage]:
            what = known.said[(kind, road)]
            if self.sent.get((time, kind, road)) != what:
                self.sent[(time, kind, road)] = what
                news.append((time, kind, road, what))
        return news

    def receive(self, time, kind, road, what):
        """Get a letter, and tell whether it makes the worker take back."""
        used = self.believed(time, kind, road)
        self.got[(time, kind, road)] = what
        done_before = STAGES * (time - self.start) + USED_IN[kind]
        if what == used or len(self.known) - 1 <= done_before:
            return False
        del self.known[done_before + 1:]
        return True


def new_worker(share, state):
    """Return a worker at the state, before its first stage."""
    return Worker(share, state[0], [known_at_first(share, state)])
