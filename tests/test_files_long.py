"""Points 4 and 15 to 20: long rows of calls of every kind to a file, each held against a plain file."""

import random
import unittest

from helper import Watch
from sipstack.words import LONGEST

ROOMS = (1, 2, 3, 8, 20, 64)


def some_bytes(chance, most):
    # Feeds are many, so that lines are short.
    return [chance.choice((10, 13, 0, 255, chance.randrange(256))) for _ in range(chance.randint(0, most))]


def some_count(chance, room):
    return chance.choice((0, 1, 2, room - 1, room, room + 1, 3 * room, 10 ** 9, -1))


def reading_call(chance, room):
    word = chance.choice(("read", "read", "read_some", "peek", "readline", "readline"))
    if word != "read_some" and chance.random() < 0.3:
        return word, ()
    if word in ("read", "readline") and chance.random() < 0.1:
        return word, (None,)
    return word, (some_count(chance, room),)


def writing_call(chance, room):
    data = some_bytes(chance, chance.choice((1, room, 3 * room)))
    if chance.random() < 0.05:
        data.append(chance.choice((True, 256, -1, "a")))
    return "write", (data,)


def placing_call(chance, watch):
    if chance.random() < 0.3:
        return "cut", chance.choice(((), (None,), (chance.randint(-1, 80),), (LONGEST + 1,))), {}
    start = chance.choice(("head", "here", "tail", "tail ", "here"))
    place = chance.choice((0, 0, chance.randint(-10, 10), chance.randint(0, 70), LONGEST + 1))
    return "seek", (place,), {"start": start}


def one_step(chance, watch, reads=True, writes=True, seeks=True):
    """Some call that the file does not refuse for its kind."""
    roll = chance.random()
    if roll < 0.05:
        watch.grow(some_bytes(chance, 6))
    elif roll < 0.08:
        watch.call("flush")
    elif roll < 0.1:
        watch.call("tell")
    elif roll < 0.2 and seeks:
        word, handed, named = placing_call(chance, watch)
        if word == "seek" or writes:
            watch.call(word, *handed, **named)
    elif reads and (roll < 0.6 or not writes):
        word, handed = reading_call(chance, watch.room)
        watch.call(word, *handed)
    elif writes:
        word, handed = writing_call(chance, watch.room)
        watch.call(word, *handed)


class LongRows(unittest.TestCase):
    def long_row(self, seed, plan_of, steps=120, **kind):
        chance = random.Random(seed)
        room = chance.choice(ROOMS)
        plan = [plan_of(chance) for _ in range(400)]
        watch = Watch(self, some_bytes(chance, 60), plan=plan, room=room, **kind)
        for _ in range(steps):
            one_step(chance, watch, **kind)

    def test_short_takes_and_puts(self):
        for seed in range(60):
            self.long_row(seed, lambda chance: chance.randint(1, 6))

    def test_all_whole(self):
        for seed in range(60):
            self.long_row(seed, lambda chance: 400)

    def test_stalls(self):
        for seed in range(100):
            self.long_row(seed, lambda chance: chance.choice((0, 0, 1, 3, 20)))

    def test_faults(self):
        for seed in range(100):
            self.long_row(seed, lambda chance: chance.choice((-1, -99, 1, 2, 5, 40)))

    def test_stalls_and_faults(self):
        for seed in range(200):
            self.long_row(seed, lambda chance: chance.choice((0, -3, -8, 1, 2, 3, 9, 64)))

    def test_only_reading(self):
        for seed in range(40):
            self.long_row(seed, lambda chance: chance.randint(-1, 12), reads=True, writes=False)

    def test_only_writing(self):
        for seed in range(40):
            self.long_row(seed, lambda chance: chance.randint(-1, 12), reads=False, writes=True)

    def test_only_reading_without_seeking(self):
        for seed in range(60):
            self.long_row(seed, lambda chance: chance.randint(-1, 12), reads=True, writes=False, seeks=False)

    def test_only_writing_without_seeking(self):
        for seed in range(60):
            self.long_row(seed, lambda chance: chance.randint(-1, 12), reads=False, writes=True, seeks=False)

    def test_near_longest(self):
        for seed in range(6):
            chance = random.Random(seed)
            plan = [chance.choice((0, -3, 1, 3, 9, 64)) for _ in range(400)]
            watch = Watch(self, [7] * (LONGEST - 30), plan=plan, room=chance.choice((1, 8, 64)))
            for _ in range(60):
                watch.call("seek", chance.randint(LONGEST - 40, LONGEST + 1))
                watch.call(*chance.choice((("write", [chance.randrange(256)] * chance.randint(0, 40)), ("read", 5),
                                           ("readline",), ("peek", 3), ("cut", LONGEST - 35), ("size",))))


if __name__ == "__main__":
    unittest.main()
