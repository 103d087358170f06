"""Broken talks, in which each program is played against the recorded messages of a quiet talk."""

from wipedtalk.checks import check_number
from wipedtalk.errors import InvalidEvent, KeepsSomething, NotSettled
from wipedtalk.programs import check_pair, keeps_nothing
from wipedtalk.runs import CHANNELS, Talk, moment_of, talk_at, walk
from wipedtalk.verdicts import handed, rest_of, verdict

HAND = ("hand", 0)
SEND = ("send",)
ANSWER = ("answer",)
PASS_FORWARD = ("pass", "forward")
PASS_BACKWARD = ("pass", "backward")
LOSE_FORWARD = ("lose", "forward", 0)
CRASH_SENDER = ("crash", "sender")
CRASH_RECEIVER = ("crash", "receiver")


class Round:
    """A round that a quiet talk was led through: which messages were sent in it, and the states between its events."""

    def __init__(self, talk):
        talk.send()
        self.behind_send = talk.sender_state
        self.has_message = len(talk.channels["forward"]) > 0
        self.value = talk.pass_forward() if self.has_message else None
        self.behind_hearing = talk.receiver_state
        talk.answer()
        self.behind_answer = talk.receiver_state
        self.has_answer = len(talk.channels["backward"]) > 0
        if self.has_answer:
            talk.pass_backward()


def first_rounds(talk, count):
    """The first rounds of the quiet talk behind a settled talk, which is led on."""
    talk.step(HAND)
    return [Round(talk) for _ in range(count)]


def rounds_to_delivery(talk):
    """The rounds of the quiet talk up to the first one in which something is delivered."""
    rounds = first_rounds(talk, 1)
    while rounds[-1].value is None:
        rounds.append(Round(talk))
    return rounds


def quiet_events(rounds):
    """The events of the quiet talk up to the send in the last one of these rounds."""
    events = [HAND]
    for part in rounds[:-1]:
        events.append(SEND)
        if part.has_message:
            events.append(PASS_FORWARD)
        events.append(ANSWER)
        if part.has_answer:
            events.append(PASS_BACKWARD)
    events.append(SEND)
    return events


def sender_events(rounds, losing):
    """The sender's events of the quiet talk up to its send in the last one of these rounds.

    If losing, each message is lost as soon as it is sent.
    """
    events = [HAND]
    was_answered = False
    for part in rounds:
        if was_answered:
            events.append(PASS_BACKWARD)
        events.append(SEND)
        if losing and part.has_message:
            events.append(LOSE_FORWARD)
        was_answered = part.has_answer
    return events


def receiver_events(rounds):
    """The receiver's events of the quiet talk up to its answer in the last one of these rounds."""
    events = []
    for part in rounds:
        if part.has_message:
            events.append(PASS_FORWARD)
        events.append(ANSWER)
    return events


def recording(rounds, channel):
    """Events behind which a channel holds what was sent there in these rounds, and all else is as ahead of them.

    Each program has to be back in its old state when it crashes behind its part of a round;
    in the last round, only the one that sends to the channel.
    """
    events = []
    for count in range(1, len(rounds) + 1):
        events.extend(sender_events(rounds[:count], False))
        events.append(CRASH_SENDER)
        if count < len(rounds) or channel == "backward":
            events.extend(receiver_events(rounds[:count]))
            events.append(CRASH_RECEIVER)
    return events


def delivers_unheard(pair, rounds, receiver_state):
    """Whether something is delivered in the rest that follows K.

    In K the sender has sent in the last round, but the receiver is in its state ahead of the
    first one, and both channels are empty.
    """
    values, _, _ = rest_of(talk_at(pair, (rounds[-1].behind_send, receiver_state, (), ())))
    return len(values) > 0


def writes_of(pair, rounds, sender_state, receiver_state):
    """The writes, if nothing is delivered in the rest that follows K: those ahead of the last round."""
    writes = []
    for count, part in enumerate(rounds[:-1], start=1):
        if pair.sender.crashes[part.behind_send] != sender_state:
            writes.append(("sender", count))
        if pair.receiver.crashes[part.behind_answer] != receiver_state:
            writes.append(("receiver", count))
    return writes


def settled_talk(pair, settled):
    """The talk behind a run; NotSettled if the run is not settled."""
    talk, outcomes = walk(pair, settled)
    values = [value for value in outcomes if value is not None]
    _, _, forward, backward = moment_of(talk)
    if values != handed(settled) or forward != () or backward != () or not talk.is_free():
        raise NotSettled()
    return talk


def breaking(pair, settled):
    """A broken run that begins with a settled one, as ("run", events), or ("writes", writes)."""
    talk = settled_talk(pair, settled)
    events = list(settled)
    if verdict(pair, events + [HAND]) != "good":
        return "run", events + [HAND]
    sender_state, receiver_state = talk.sender_state, talk.receiver_state
    rounds = rounds_to_delivery(talk)
    if delivers_unheard(pair, rounds, receiver_state):
        if pair.receiver.crashes[rounds[-1].behind_hearing] != receiver_state:
            return "writes", [("receiver", len(rounds))]
        return "run", events + quiet_events(rounds) + [PASS_FORWARD, CRASH_RECEIVER]
    writes = writes_of(pair, rounds, sender_state, receiver_state)
    if len(writes) > 0:
        return "writes", writes
    return "run", events + recording(rounds[:-1], "backward") + sender_events(rounds, True)


def recorded(pair, channel, rounds):
    """A run behind which a channel holds the messages of so many quiet rounds, and all else is as at first."""
    check_pair(pair)
    if channel not in CHANNELS:
        raise InvalidEvent(None)
    check_number(rounds, 0)
    for program in ("sender", "receiver"):
        if not keeps_nothing(pair, program):
            raise KeepsSomething(program)
    return recording(first_rounds(Talk(pair), rounds), channel)


def one_crash(pair):
    """A run of at most one crash, the receiver's, that is not good if only the sender's crashes excuse."""
    check_pair(pair)
    if not keeps_nothing(pair, "receiver"):
        raise KeepsSomething("receiver")
    if verdict(pair, [HAND]) != "good":
        return [HAND]
    rounds = rounds_to_delivery(Talk(pair))
    if delivers_unheard(pair, rounds, 0):
        return quiet_events(rounds) + [PASS_FORWARD, CRASH_RECEIVER]
    return quiet_events(rounds) + [LOSE_FORWARD, CRASH_RECEIVER]
