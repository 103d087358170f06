"""Point [5] and the interface under wipedtalk/runs.py."""

import copy
import unittest

from tests import model, samples
from tests.samples import ANSWER, CRASH_R, CRASH_S, HAND, LOSE_B, LOSE_F, PASS_B, PASS_F, SEND
from wipedtalk.errors import InvalidEvent, InvalidPair, NotPossible
from wipedtalk.programs import Pair, Receiver, Sender
from wipedtalk.runs import delivered, possible, walked
from wipedtalk.verdicts import rest, verdict

CALLS = (walked, delivered, possible, rest, verdict)


def counting_pair():
    """A pair in which each state and each message can be told from the others."""
    told = Sender(
        2, 3, 3,
        sends=[0, 1, 2, None],
        ticks=[1, 2, 3, 0],
        hears=[(1, 2, 3), (2, 3, 0), (3, 0, 1), (0, 1, 2)],
        takes=[(1, 2), None, (3, 0), None],
        crashes=[3, 2, 1, 0],
    )
    heard = Receiver(
        2, 3, 3,
        sends=[0, 1, 2, None],
        ticks=[2, 3, 1, 0],
        hears=[(1, 2, 3), (2, 3, 0), (3, 0, 1), (0, 1, 2)],
        gives=[(0, 1, None), (1, None, 0), (None, 0, 1), (None, None, None)],
        crashes=[2, 3, 0, 1],
    )
    return Pair(told, heard)


class Walked(unittest.TestCase):
    def test_the_empty_run(self):
        for pair in (samples.pair(), samples.echo(), counting_pair()):
            self.assertEqual(walked(pair, []), (0, 0, (), ()))
            self.assertEqual(walked(pair, ()), (0, 0, (), ()))
            self.assertEqual(delivered(pair, []), [])

    def test_hand(self):
        self.assertEqual(walked(counting_pair(), [("hand", 0)]), (1, 0, (), ()))
        self.assertEqual(walked(counting_pair(), [("hand", 1)]), (2, 0, (), ()))
        self.assertEqual(walked(counting_pair(), [("hand", 1), ("hand", 0)]), (3, 0, (), ()))
        self.assertEqual(walked(counting_pair(), [("hand", 1), ("hand", 1)]), (0, 0, (), ()))

    def test_send(self):
        self.assertEqual(walked(counting_pair(), [SEND]), (1, 0, (0,), ()))
        self.assertEqual(walked(counting_pair(), [SEND] * 3), (3, 0, (0, 1, 2), ()))
        self.assertEqual(walked(counting_pair(), [SEND] * 4), (0, 0, (0, 1, 2), ()))
        self.assertEqual(walked(counting_pair(), [SEND] * 5), (1, 0, (0, 1, 2, 0), ()))

    def test_answer(self):
        self.assertEqual(walked(counting_pair(), [ANSWER]), (0, 2, (), (0,)))
        self.assertEqual(walked(counting_pair(), [ANSWER] * 3), (0, 3, (), (0, 2, 1)))
        self.assertEqual(walked(counting_pair(), [ANSWER] * 4), (0, 0, (), (0, 2, 1)))

    def test_pass_forward(self):
        run = [SEND, SEND, SEND, PASS_F]
        self.assertEqual(walked(counting_pair(), run), (3, 1, (1, 2), ()))
        self.assertEqual(walked(counting_pair(), run + [PASS_F]), (3, 3, (2,), ()))
        self.assertEqual(walked(counting_pair(), run + [PASS_F] * 2), (3, 2, (), ()))
        self.assertEqual(delivered(counting_pair(), run), [0])
        self.assertEqual(delivered(counting_pair(), run + [PASS_F]), [0])
        self.assertEqual(delivered(counting_pair(), [SEND, SEND, LOSE_F, PASS_F]), [1])

    def test_pass_backward(self):
        run = [ANSWER, ANSWER, ANSWER, PASS_B]
        self.assertEqual(walked(counting_pair(), run), (1, 3, (), (2, 1)))
        self.assertEqual(walked(counting_pair(), run + [PASS_B]), (0, 3, (), (1,)))
        self.assertEqual(delivered(counting_pair(), run + [PASS_B] * 2), [])

    def test_lose(self):
        run = [SEND] * 3 + [ANSWER] * 3
        for place, left in enumerate([(1, 2), (0, 2), (0, 1)]):
            told = walked(counting_pair(), run + [("lose", "forward", place)])
            self.assertEqual(told, (3, 3, left, (0, 2, 1)))
        for place, left in enumerate([(2, 1), (0, 1), (0, 2)]):
            told = walked(counting_pair(), run + [("lose", "backward", place)])
            self.assertEqual(told, (3, 3, (0, 1, 2), left))
        self.assertEqual(delivered(counting_pair(), run + [LOSE_F] * 3), [])

    def test_crash(self):
        run = [SEND, SEND, ANSWER]
        self.assertEqual(walked(counting_pair(), run), (2, 2, (0, 1), (0,)))
        self.assertEqual(walked(counting_pair(), run + [CRASH_S]), (1, 2, (0, 1), (0,)))
        self.assertEqual(walked(counting_pair(), run + [CRASH_R]), (2, 0, (0, 1), (0,)))
        self.assertEqual(walked(counting_pair(), [CRASH_S]), (3, 0, (), ()))
        self.assertEqual(walked(counting_pair(), [CRASH_R]), (0, 2, (), ()))

    def test_no_event_touches_the_other_program(self):
        pair = samples.echo()
        self.assertEqual(walked(pair, [("hand", 1), SEND, SEND, PASS_F]), (2, 1, (1,), ()))
        self.assertEqual(walked(pair, [("hand", 1), SEND, PASS_F, ANSWER, ANSWER]), (2, 0, (), (0,)))
        self.assertEqual(walked(pair, [("hand", 1), SEND, PASS_F, ANSWER, PASS_B]), (0, 0, (), ()))
        self.assertEqual(delivered(pair, [("hand", 1), SEND, SEND, PASS_F, PASS_F]), [1, 1])

    def test_delivered_tells_the_values_in_order(self):
        run = [("hand", 1), SEND, PASS_F, ANSWER, PASS_B, ("hand", 0), SEND, PASS_F, ANSWER, PASS_B, ("hand", 1), SEND]
        self.assertEqual(delivered(samples.echo(), run), [1, 0])
        self.assertEqual(delivered(samples.echo(), run + [PASS_F]), [1, 0, 1])

    def test_kinds_of_what_is_told(self):
        told = walked(samples.echo(), [HAND, SEND, PASS_F, ANSWER, SEND])
        self.assertEqual([isinstance(part, tuple) for part in told], [False, False, True, True])
        self.assertIsInstance(told, tuple)
        self.assertIsInstance(delivered(samples.echo(), []), list)
        self.assertIsInstance(possible(samples.echo(), []), list)


class Possible(unittest.TestCase):
    def test_behind_the_empty_run(self):
        always = [SEND, ANSWER, CRASH_S, CRASH_R]
        self.assertEqual(possible(samples.echo(1), []), [("hand", 0)] + always)
        self.assertEqual(possible(samples.echo(3), []), [("hand", 0), ("hand", 1), ("hand", 2)] + always)

    def test_a_sender_that_is_not_free(self):
        self.assertEqual(possible(samples.echo(), [HAND]), [SEND, ANSWER, CRASH_S, CRASH_R])

    def test_one_channel(self):
        told = possible(samples.echo(), [HAND, SEND, SEND])
        losses = [("lose", "forward", 0), ("lose", "forward", 1)]
        self.assertEqual(told, [SEND, ANSWER, PASS_F, *losses, CRASH_S, CRASH_R])
        told = possible(samples.echo(), [HAND, SEND, PASS_F, ANSWER])
        self.assertEqual(told, [SEND, ANSWER, PASS_B, LOSE_B, CRASH_S, CRASH_R])

    def test_all_kinds_in_their_order(self):
        told = possible(counting_pair(), [SEND, SEND, ANSWER, ANSWER, ANSWER])
        self.assertEqual(told, [
            ("hand", 0), ("hand", 1), ("send",), ("answer",), ("pass", "forward"), ("pass", "backward"),
            ("lose", "forward", 0), ("lose", "forward", 1),
            ("lose", "backward", 0), ("lose", "backward", 1), ("lose", "backward", 2),
            ("crash", "sender"), ("crash", "receiver"),
        ])


class AgainstTheModel(unittest.TestCase):
    def test_walked_delivered_and_possible(self):
        for pair, run in model.samples(400, 5, 25):
            states, outcomes = model.states_of(pair, run)
            for length in range(len(run) + 1):
                self.assertEqual(walked(pair, run[:length]), states[length])
            self.assertEqual(delivered(pair, run), [value for value in outcomes if value is not None])
            self.assertEqual(possible(pair, run), model.possible(pair, states[-1]))

    def test_just_the_possible_events_are_let(self):
        for pair, run in model.samples(150, 6, 8):
            state = model.states_of(pair, run)[0][-1]
            for event in model.all_events(pair, state):
                found = model.after(pair, state, event)
                if found is None:
                    for call in CALLS:
                        with self.assertRaises(NotPossible) as caught:
                            call(pair, run + [event])
                        self.assertEqual(caught.exception.place, len(run))
                else:
                    self.assertEqual(walked(pair, run + [event]), found[0])


class Arguments(unittest.TestCase):
    def test_by_name(self):
        for call in CALLS:
            run = [HAND, SEND]
            self.assertEqual(call(run=run, pair=samples.echo()), call(samples.echo(), run))

    def test_a_tuple_in_the_place_of_a_list(self):
        for call in CALLS:
            run = [HAND, SEND, SEND, PASS_F, ANSWER]
            self.assertEqual(call(samples.echo(), tuple(run)), call(samples.echo(), run))

    def test_a_list_in_the_place_of_a_tuple(self):
        for call in CALLS:
            with self.assertRaises(InvalidEvent) as caught:
                call(samples.echo(), [HAND, ["send"]])
            self.assertEqual(caught.exception.place, 1)

    def test_arguments_are_not_changed_and_results_are_new(self):
        for call in CALLS:
            pair = samples.echo()
            run = [HAND, SEND, SEND, PASS_F, ANSWER]
            kept = copy.deepcopy(run)
            first = call(pair, run)
            again = call(pair, run)
            self.assertEqual(run, kept)
            self.assertEqual(pair, samples.echo())
            self.assertEqual(first, again)
            lists = [thing for thing in (first, *first) if isinstance(thing, list)]
            for thing in lists:
                thing.append("more")
            self.assertEqual(call(pair, run), again)

    def test_what_is_no_pair(self):
        for call in CALLS:
            for thing in [*samples.non_pairs(), Pair]:
                for run in ([], None, [("nothing",)]):
                    with self.assertRaises(InvalidPair) as caught:
                        call(thing, run)
                    self.assertIs(caught.exception.thing, thing)

    def test_what_is_no_list(self):
        for call in CALLS:
            for thing in samples.non_lists():
                with self.assertRaises(InvalidEvent) as caught:
                    call(samples.echo(), thing)
                self.assertIsNone(caught.exception.place)

    def test_what_is_no_event(self):
        pair = samples.echo(2)
        for thing in samples.non_events(2):
            for call in (walked, delivered, possible):
                for ahead in ([], [HAND, SEND, PASS_F]):
                    with self.assertRaises(InvalidEvent) as caught:
                        call(pair, ahead + [thing] + [SEND])
                    self.assertEqual(caught.exception.place, len(ahead))

    def test_what_is_no_event_for_rest_and_verdict(self):
        for thing in samples.non_events(2):
            for call in (rest, verdict):
                with self.assertRaises(InvalidEvent) as caught:
                    call(samples.echo(2), (SEND, thing))
                self.assertEqual(caught.exception.place, 1)

    def test_true_is_not_1(self):
        for call in CALLS:
            for event in (("hand", True), ("hand", False), ("lose", "forward", True), ("lose", "forward", False)):
                run = [HAND, SEND, SEND, SEND, PASS_F, ANSWER, PASS_B, event]
                with self.assertRaises(InvalidEvent) as caught:
                    call(samples.echo(), run)
                self.assertEqual(caught.exception.place, 7)

    def test_the_first_of_several(self):
        for call in CALLS:
            with self.assertRaises(InvalidEvent) as caught:
                call(samples.echo(), [SEND, None, ("x",)])
            self.assertEqual(caught.exception.place, 1)
            with self.assertRaises(NotPossible) as caught:
                call(samples.echo(), [SEND, PASS_F, PASS_B])
            self.assertEqual(caught.exception.place, 1)

    def test_no_event_at_all_comes_ahead_of_an_impossible_one(self):
        for call in CALLS:
            with self.assertRaises(InvalidEvent) as caught:
                call(samples.echo(), [PASS_F, HAND, HAND, ("hand", 2)])
            self.assertEqual(caught.exception.place, 3)

    def test_values_hang_on_the_pair(self):
        for values in (1, 2, 9):
            self.assertEqual(walked(samples.echo(values), [("hand", values - 1)])[0], values)
            with self.assertRaises(InvalidEvent):
                walked(samples.echo(values), [("hand", values)])

    def test_impossible_events(self):
        runs = [
            [PASS_F], [PASS_B], [LOSE_F], [LOSE_B], [HAND, HAND], [HAND, SEND, ("lose", "forward", 1)],
            [HAND, SEND, PASS_B], [HAND, SEND, LOSE_B], [HAND, SEND, PASS_F, PASS_F],
            [HAND, SEND, PASS_F, ANSWER, PASS_F], [HAND, SEND, PASS_F, ANSWER, ("lose", "backward", 1)],
            [HAND, SEND, ("lose", "forward", 10 ** 99)], [SEND, PASS_F], [ANSWER, PASS_B],
            [HAND, SEND, PASS_F, ANSWER, LOSE_B, PASS_B], [HAND, SEND, LOSE_F, PASS_F],
        ]
        for call in CALLS:
            for run in runs:
                with self.assertRaises(NotPossible) as caught:
                    call(samples.echo(), run)
                self.assertEqual(caught.exception.place, len(run) - 1)
                with self.assertRaises(NotPossible) as caught:
                    call(samples.echo(), run + [PASS_F, SEND])
                self.assertEqual(caught.exception.place, len(run) - 1)


if __name__ == "__main__":
    unittest.main()
