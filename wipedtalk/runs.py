"""Runs: talks of a pair, walked event by event."""

from wipedtalk.checks import is_below, is_integer_from, is_list
from wipedtalk.errors import InvalidEvent, NotPossible
from wipedtalk.programs import check_pair

CHANNELS = ("forward", "backward")

# The events that are told without a number.
PLAIN_EVENTS = (
    ("send",),
    ("answer",),
    ("pass", "forward"),
    ("pass", "backward"),
    ("crash", "sender"),
    ("crash", "receiver"),
)


def is_event(pair, thing):
    """Whether a thing is one of the tuples that tell events of a pair, possible or not."""
    if not isinstance(thing, tuple):
        return False
    if len(thing) == 2 and thing[0] == "hand":
        return is_below(thing[1], pair.sender.value_count)
    if len(thing) == 3 and thing[0] == "lose":
        return thing[1] in CHANNELS and is_integer_from(thing[2], 0)
    return thing in PLAIN_EVENTS


class Talk:
    """A talk of a pair: both states and both channels, as the events change them."""

    def __init__(self, pair):
        self.sender_tables = pair.sender
        self.receiver_tables = pair.receiver
        self.sender_state = 0
        self.receiver_state = 0
        self.channels = {"forward": [], "backward": []}

    def is_free(self):
        """Whether a value can be handed now."""
        return self.sender_tables.takes[self.sender_state] is not None

    def allows(self, event):
        """Whether an event is possible now."""
        if event[0] == "hand":
            return self.is_free()
        if event[0] == "pass":
            return len(self.channels[event[1]]) > 0
        if event[0] == "lose":
            return event[2] < len(self.channels[event[1]])
        return True

    def step(self, event):
        """Let a possible event happen; the value that is delivered by it, or None."""
        if event == ("pass", "forward"):
            return self.pass_forward()
        if event == ("pass", "backward"):
            self.pass_backward()
        elif event[0] == "hand":
            self.sender_state = self.sender_tables.takes[self.sender_state][event[1]]
        elif event[0] == "send":
            self.send()
        elif event[0] == "answer":
            self.answer()
        elif event[0] == "lose":
            del self.channels[event[1]][event[2]]
        else:
            self.crash(event[1])
        return None

    def send(self):
        """A tick of the sender."""
        message = self.sender_tables.sends[self.sender_state]
        if message is not None:
            self.channels["forward"].append(message)
        self.sender_state = self.sender_tables.ticks[self.sender_state]

    def answer(self):
        """A tick of the receiver."""
        message = self.receiver_tables.sends[self.receiver_state]
        if message is not None:
            self.channels["backward"].append(message)
        self.receiver_state = self.receiver_tables.ticks[self.receiver_state]

    def pass_forward(self):
        """The receiver hears a message; the value that it delivers then, or None."""
        message = self.channels["forward"].pop(0)
        value = self.receiver_tables.gives[self.receiver_state][message]
        self.receiver_state = self.receiver_tables.hears[self.receiver_state][message]
        return value

    def pass_backward(self):
        """The sender hears a message."""
        message = self.channels["backward"].pop(0)
        self.sender_state = self.sender_tables.hears[self.sender_state][message]

    def crash(self, program):
        """A program forgets what it does not keep; the channels stay as they are."""
        if program == "sender":
            self.sender_state = self.sender_tables.crashes[self.sender_state]
        else:
            self.receiver_state = self.receiver_tables.crashes[self.receiver_state]


def moment_of(talk):
    """The tuple that `walked` tells, of a talk as it is now."""
    forward = tuple(talk.channels["forward"])
    backward = tuple(talk.channels["backward"])
    return talk.sender_state, talk.receiver_state, forward, backward


def talk_at(pair, moment):
    """A new talk that goes on from a moment."""
    talk = Talk(pair)
    talk.sender_state, talk.receiver_state, forward, backward = moment
    talk.channels = {"forward": list(forward), "backward": list(backward)}
    return talk


def check_events(pair, run):
    """Raise InvalidEvent if a run is not a list of events, possible or not."""
    if not is_list(run):
        raise InvalidEvent(None)
    for place, event in enumerate(run):
        if not is_event(pair, event):
            raise InvalidEvent(place)


def walk(pair, run):
    """The talk behind a run, and for each event the value that it delivers, or None."""
    check_pair(pair)
    check_events(pair, run)
    talk = Talk(pair)
    outcomes = []
    for place, event in enumerate(run):
        if not talk.allows(event):
            raise NotPossible(place)
        outcomes.append(talk.step(event))
    return talk, outcomes


def walked(pair, run):
    """The sender's state, the receiver's state, the channel forward and the channel backward behind a run."""
    talk, _ = walk(pair, run)
    return moment_of(talk)


def delivered(pair, run):
    """The list of the values that are delivered in a run."""
    _, outcomes = walk(pair, run)
    return [value for value in outcomes if value is not None]


def possible(pair, run):
    """The list of all events that are possible behind a run."""
    talk, _ = walk(pair, run)
    events = []
    if talk.is_free():
        events.extend([("hand", value) for value in range(pair.sender.value_count)])
    events.append(("send",))
    events.append(("answer",))
    for channel in CHANNELS:
        if len(talk.channels[channel]) > 0:
            events.append(("pass", channel))
    for channel in CHANNELS:
        events.extend([("lose", channel, place) for place in range(len(talk.channels[channel]))])
    events.append(("crash", "sender"))
    events.append(("crash", "receiver"))
    return events
