"""Pairs that hold out: as long as the channels hold few messages, or for ever."""

from wipedtalk.checks import check_number
from wipedtalk.programs import Pair, Receiver, Sender

# The messages forward of the pairs that keep nothing, and those backward.
RESET = 0
COUNT = 1
TELL = 2
BLANK = 0
READY = 1


def enduring_sender(room):
    """A sender that has the receiver begin anew, and waits until it is ready, ahead of each telling.

    Its states: 0, idle; from 1 on, resetting; then having the receiver count; then telling.
    """
    counting = room + 2
    telling = room + 3
    # A channel holds room messages, so the last one of room + 1 blank answers was sent behind
    # the handing; and a ready one that is heard behind it was sent behind it, too.
    resetting = [(state + 1, state) for state in range(1, counting)]
    return Sender(
        1, 3, 2,
        sends=[None] + [RESET] * len(resetting) + [COUNT, TELL],
        ticks=list(range(room + 4)),
        # A blank answer to the telling: the receiver has heard the value, or crashed.
        hears=[(0, 0)] + resetting + [(counting, telling), (0, telling)],
        takes=[(1,)] + [None] * (room + 3),
        crashes=[0] * (room + 4),
    )


def enduring_receiver(room):
    """A receiver that is ready for a value when it has counted room + 1 messages since it was blank.

    Its states: 0, blank; then one for each message that is counted, the last of them ready.
    """
    ready = room + 1
    # The last message that is counted was sent since the blank state, and all ahead of it are gone.
    counting = [(0, state + 1, 0) for state in range(ready)]
    return Receiver(
        1, 3, 2,
        sends=[BLANK] + [None] * room + [READY],
        ticks=list(range(room + 2)),
        hears=counting + [(0, ready, 0)],
        gives=[(None, None, None)] * ready + [(None, None, 0)],
        crashes=[0] * (room + 2),
    )


def enduring(room):
    """A pair that keeps nothing, and is not broken as long as no channel holds more than room messages."""
    check_number(room, 1)
    return Pair(enduring_sender(room), enduring_receiver(room))


def numbered(states):
    """For each state, told as a tuple, its number."""
    return {state: number for number, state in enumerate(states)}


def taken(numbers, state, values):
    """For each value the number of the state after it is handed, or None if there is a value already.

    A state is told by a mark, the value that the sender has or None, and whether it tells it.
    """
    mark, value, _ = state
    if value is not None:
        return None
    return tuple([numbers[(mark, given, False)] for given in range(values)])


def turn_states(values):
    """The sender's states for `turn`: their marks tell whose turn it heard last, if any."""
    quiet = [(mark, value, False) for mark in (None, 0, 1) for value in [None] + list(range(values))]
    return quiet + [(mark, value, True) for mark in (0, 1) for value in range(values)]


def turn_reply(state, values):
    """The message that is sent in a state for `turn`: for each turn there is an empty reply, and one for each value."""
    mark, value, telling = state
    if mark is None:
        return None
    if telling:
        return mark * (values + 1) + 1 + value
    return mark * (values + 1)


def turn_heard(state, mark):
    """The sender's state for `turn` after it has heard whose turn it is."""
    last, value, telling = state
    if mark == last:
        return state
    if telling:
        # The turn that is over took one of its replies, and each of these told the value.
        return mark, None, False
    # The first turn that is heard behind a crash may have been replied to ahead of the crash.
    return mark, value, last is not None and value is not None


def turn_sender(values):
    """A sender that keeps nothing, and tells its value in the turn that begins behind the handing."""
    states = turn_states(values)
    numbers = numbered(states)
    return Sender(
        values, 2 * (values + 1), 2,
        sends=[turn_reply(state, values) for state in states],
        ticks=list(range(len(states))),
        hears=[tuple([numbers[turn_heard(state, mark)] for mark in (0, 1)]) for state in states],
        takes=[taken(numbers, state, values) for state in states],
        crashes=[0] * len(states),
    )


def turn_receiver(values):
    """A receiver that keeps whose turn it is, 0 or 1, and takes one reply a turn."""
    replies = values + 1
    told = (None,) + tuple(range(values))
    nothing = (None,) * replies
    # A reply makes it the other one's turn, or finds that it is already.
    hears = (1,) * replies + (0,) * replies
    return Receiver(
        values, 2 * replies, 2,
        sends=[0, 1],
        ticks=[0, 1],
        hears=[hears, hears],
        gives=[told + nothing, nothing + told],
        crashes=[0, 1],
    )


def turn(values):
    """A pair whose sender keeps nothing, and that is never broken."""
    check_number(values, 1)
    return Pair(turn_sender(values), turn_receiver(values))


def greeting_states(values):
    """The sender's states for `greeting`: each value has another mark than the one ahead of it."""
    idle = [(mark, None, False) for mark in (0, 1)]
    return idle + [(mark, value, telling) for mark in (0, 1) for value in range(values) for telling in (False, True)]


def greeting_message(state, values):
    """The message that is sent in a state for `greeting`: for each mark there is a greeting; then come the values."""
    mark, value, telling = state
    if value is None:
        return None
    if telling:
        return 2 + mark * values + value
    return mark


def greeting_heard(state, message):
    """The sender's state for `greeting` after an answer: for each mark there is "greeted", and then "done"."""
    mark, value, telling = state
    if telling and message == 2 + mark:
        return 1 - mark, None, False
    if value is not None and message == mark:
        return mark, value, True
    return state


def greeting_sender(values):
    """A sender that keeps all, and tells its value only to a receiver that it has greeted behind the handing."""
    states = greeting_states(values)
    numbers = numbered(states)
    return Sender(
        values, 2 + 2 * values, 4,
        sends=[greeting_message(state, values) for state in states],
        ticks=list(range(len(states))),
        hears=[tuple([numbers[greeting_heard(state, message)] for message in range(4)]) for state in states],
        takes=[taken(numbers, state, values) for state in states],
        crashes=list(range(len(states))),
    )


def greeting_receiver(values):
    """A receiver that keeps nothing, and delivers a value if it was greeted with its mark, and not told it since.

    Its states: 0; greeted, with each mark; done, with each mark.
    """
    told = tuple(range(values))
    nothing = (None,) * values
    silent = (None, None) + nothing + nothing
    # Behind a value no older greeting is left, so that a crash does not have it delivered again.
    hears = (1, 2) + (3,) * values + (4,) * values
    return Receiver(
        values, 2 + 2 * values, 4,
        sends=[None, 0, 1, 2, 3],
        ticks=[0, 1, 2, 3, 4],
        hears=[hears] * 5,
        gives=[silent, (None, None) + told + nothing, (None, None) + nothing + told, silent, silent],
        crashes=[0] * 5,
    )


def greeting(values):
    """A pair whose receiver keeps nothing, and that is never broken."""
    check_number(values, 1)
    return Pair(greeting_sender(values), greeting_receiver(values))
