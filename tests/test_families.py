"""Point [11] and the interface under wipedtalk/families.py."""

import random
import unittest

from tests import model, samples
from tests.explore import Broken, explore
from tests.samples import CRASH_R, CRASH_S
from wipedtalk.errors import InvalidNumber
from wipedtalk.families import enduring, greeting, turn
from wipedtalk.programs import Pair, Receiver, Sender, keeps_nothing
from wipedtalk.replays import breaking
from wipedtalk.runs import possible, walked
from wipedtalk.verdicts import verdict

FAMILIES = (enduring, turn, greeting)


def size(pair):
    return len(pair.sender.sends) * len(pair.receiver.sends)


def talks(chance, pair, length, room=None):
    """A run of so many events in which no channel, if room is told, holds more messages."""
    run = []
    state = model.START
    for _ in range(length):
        events = []
        for event in model.possible(pair, state):
            behind, _ = model.after(pair, state, event)
            if room is None or max(len(behind[2]), len(behind[3])) <= room:
                events.append(event)
        rare = {"crash": 0.05, "lose": 0.15 / (len(state[2]) + len(state[3]) + 1)}
        run.append(chance.choices(events, [rare.get(event[0], 1) for event in events])[0])
        state, _ = model.after(pair, state, run[-1])
    return run


class Families(unittest.TestCase):
    def test_kinds_and_values(self):
        for make in FAMILIES:
            for number in range(1, 9):
                pair = make(number)
                self.assertIsInstance(pair, Pair)
                self.assertIsInstance(pair.sender, Sender)
                self.assertIsInstance(pair.receiver, Receiver)
                values = 1 if make is enduring else number
                self.assertEqual(pair.sender.value_count, values)
                self.assertEqual(pair.receiver.value_count, values)
                self.assertEqual(make(number), pair)

    def test_what_they_keep(self):
        for number in range(1, 9):
            for program, expected in (("sender", [True, True, False]), ("receiver", [True, False, True])):
                self.assertEqual([keeps_nothing(make(number), program) for make in FAMILIES], expected)

    def test_numbers_of_states(self):
        for room in (1, 2):
            self.assertLessEqual(size(enduring(room)), 120)
        for room in range(3, 9):
            self.assertLessEqual(size(enduring(room)), 400)
        for values in (1, 2, 3):
            self.assertLessEqual(size(turn(values)), 120)
            self.assertLessEqual(size(greeting(values)), 120)
        pairs = [enduring(room) for room in range(1, 9)]
        for pair in pairs + [make(values) for make in (turn, greeting) for values in (1, 2, 3)]:
            self.assertLessEqual(max(len(pair.sender.sends), len(pair.receiver.sends)), 60)
            self.assertLessEqual(max(pair.sender.forward, pair.sender.backward), 60)

    def test_by_name(self):
        self.assertEqual(enduring(room=2), enduring(2))
        self.assertEqual(turn(values=2), turn(2))
        self.assertEqual(greeting(values=2), greeting(2))

    def test_wrong_numbers(self):
        for make in FAMILIES:
            for thing in [0, -1, -(10 ** 99), *samples.non_integers()]:
                with self.assertRaises(InvalidNumber) as caught:
                    make(thing)
                self.assertIs(caught.exception.thing, thing)

    def test_numbers_beyond_the_limits(self):
        self.assertEqual(verdict(enduring(40), [("hand", 0)]), "good")
        for make in (turn, greeting):
            self.assertEqual(verdict(make(12), [("hand", 11)]), "good")


class HoldingOut(unittest.TestCase):
    def test_each_run_in_so_much_room_is_good(self):
        for pair, room in (
            (enduring(1), 1), (enduring(2), 2), (turn(1), 2), (turn(2), 1), (turn(3), 1),
            (greeting(1), 3), (greeting(2), 2), (greeting(3), 2),
        ):
            self.assertGreater(explore(pair, room), 300)

    def test_more_room_breaks_an_enduring_pair(self):
        for pair, room in ((enduring(1), 2), (enduring(2), 3), (samples.echo(), 1)):
            with self.assertRaises(Broken):
                explore(pair, room)

    def assert_good(self, pair, run):
        self.assertEqual(model.verdict(pair, run, model.BOTH), "good", run)
        self.assertEqual(verdict(pair, run), "good", run)

    def test_drawn_runs_of_enduring_pairs(self):
        chance = random.Random(31)
        for room in range(1, 9):
            for _ in range(40):
                self.assert_good(enduring(room), talks(chance, enduring(room), chance.randint(1, 80), room))

    def test_drawn_runs_of_pairs_that_hold_out_for_ever(self):
        chance = random.Random(32)
        for make in (turn, greeting):
            for values in (1, 2, 3):
                pair = make(values)
                for _ in range(60):
                    self.assert_good(pair, talks(chance, pair, chance.randint(1, 80)))

    def test_messages_that_are_held_back_for_long(self):
        chance = random.Random(33)
        for make in (turn, greeting):
            for values in (1, 2, 3):
                pair = make(values)
                for _ in range(25):
                    run = []
                    for _ in range(6):
                        state = model.states_of(pair, run)[0][-1]
                        if chance.random() < 0.5:
                            run += model.rest_events(pair, state, chance.randint(0, 2))
                            state = model.states_of(pair, run)[0][-1]
                        hands = [event for event in possible(pair, run) if event[0] == "hand"]
                        if hands:
                            run.append(chance.choice(hands))
                        run += chance.choices([("send",), ("answer",)], k=chance.randint(0, 6))
                        run += chance.choice([[], [], [CRASH_S], [CRASH_R]])
                        self.assert_good(pair, run)

    def test_the_verdicts_of_the_empty_run_and_of_each_handing(self):
        for make in FAMILIES:
            for number in (1, 2, 3):
                pair = make(number)
                self.assert_good(pair, [])
                for value in range(pair.sender.value_count):
                    self.assert_good(pair, [("hand", value)])

    def test_breaking_tells_a_run_in_more_room_for_each_enduring_pair(self):
        for room in range(1, 9):
            pair = enduring(room)
            kind, events = breaking(pair, [])
            self.assertEqual(kind, "run")
            self.assertNotEqual(verdict(pair, events), "good")
            held = []
            for end in range(len(events) + 1):
                _, _, forward, backward = walked(pair, events[:end])
                held.append(max(len(forward), len(backward)))
            self.assertGreater(max(held), room)


if __name__ == "__main__":
    unittest.main()
