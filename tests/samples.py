"""Programs, pairs and wrong things that several tests use."""

from wipedtalk.programs import Pair, Receiver, Sender

CHOICES = ((), ("sender",), ("receiver",), ("sender", "receiver"), ("receiver", "sender"))

HAND = ("hand", 0)
SEND = ("send",)
ANSWER = ("answer",)
PASS_F = ("pass", "forward")
PASS_B = ("pass", "backward")
LOSE_F = ("lose", "forward", 0)
LOSE_B = ("lose", "backward", 0)
CRASH_S = ("crash", "sender")
CRASH_R = ("crash", "receiver")


def sender_parts(**changes):
    """The arguments of a right sender with three states, perhaps with some changes."""
    parts = {
        "value_count": 2,
        "forward": 3,
        "backward": 2,
        "sends": [None, 0, 2],
        "ticks": [0, 1, 2],
        "hears": [(0, 0), (0, 1), (2, 0)],
        "takes": [(1, 2), None, (1, 2)],
        "crashes": [0, 0, 2],
    }
    parts.update(changes)
    return parts


def receiver_parts(**changes):
    """The arguments of a right receiver with two states, perhaps with some changes."""
    parts = {
        "value_count": 2,
        "forward": 3,
        "backward": 2,
        "sends": [None, 1],
        "ticks": [0, 0],
        "hears": [(1, 0, 1), (1, 1, 0)],
        "gives": [(0, None, 1), (None, None, 1)],
        "crashes": [0, 0],
    }
    parts.update(changes)
    return parts


def sender(**changes):
    return Sender(**sender_parts(**changes))


def receiver(**changes):
    return Receiver(**receiver_parts(**changes))


def pair():
    return Pair(sender(), receiver())


def echo(values=2):
    """A pair of which nothing is lost as long as nothing disturbs it.

    The sender tells its value at each tick until an answer comes; the receiver delivers
    each message that it hears, and answers once.
    """
    told = range(values)
    return Pair(
        Sender(
            values, values, 1,
            sends=[None, *told],
            ticks=list(range(values + 1)),
            hears=[(0,)] * (values + 1),
            takes=[tuple(value + 1 for value in told)] + [None] * values,
            crashes=[0] * (values + 1),
        ),
        Receiver(
            values, values, 1,
            sends=[None, 0],
            ticks=[0, 0],
            hears=[(1,) * values] * 2,
            gives=[tuple(told)] * 2,
            crashes=[0, 0],
        ),
    )


def telling_pair(values=3):
    """A pair for talks in which any value may be handed, told, lost and delivered at any time.

    The sender is always free, tells the value that it was handed last once, and keeps nothing;
    the receiver delivers each message.
    """
    told = range(values)
    return Pair(
        Sender(
            values, values, 1,
            sends=[None, *told], ticks=[0] * (values + 1), hears=[(0,)] * (values + 1),
            takes=[tuple(value + 1 for value in told)] * (values + 1), crashes=[0] * (values + 1),
        ),
        Receiver(
            values, values, 1, sends=[None], ticks=[0], hears=[(0,) * values], gives=[tuple(told)], crashes=[0],
        ),
    )


def slow_pair(silent=1):
    """A pair that keeps nothing, and whose sender tells its value once, behind so many ticks at which it is silent."""
    many = silent + 2
    return Pair(
        Sender(
            1, 1, 1,
            sends=[None] * (many - 1) + [0], ticks=[0, *range(2, many), 0], hears=[(state,) for state in range(many)],
            takes=[(1,)] + [None] * (many - 1), crashes=[0] * many,
        ),
        Receiver(1, 1, 1, sends=[None], ticks=[0], hears=[(0,)], gives=[(0,)], crashes=[0]),
    )


def asking_pair(answers=3, kept=False):
    """A pair whose sender asks until it has heard so many answers, and tells its value, once, in the next round.

    Its receiver is in two states by turns; both programs keep nothing, or all.
    """
    many = answers + 2
    return Pair(
        Sender(
            1, 2, 1,
            sends=[None] + [0] * answers + [1],
            ticks=list(range(many - 1)) + [0],
            hears=[(0,)] + [(state + 1,) for state in range(1, many - 1)] + [(many - 1,)],
            takes=[(1,)] + [None] * (many - 1),
            crashes=list(range(many)) if kept else [0] * many,
        ),
        Receiver(
            1, 2, 1,
            sends=[0, 0], ticks=[1, 0], hears=[(0, 0), (1, 1)], gives=[(None, 0)] * 2,
            crashes=[0, 1] if kept else [0, 0],
        ),
    )


def mute_receiver(values=1, forward=1, backward=1):
    """A receiver of one state that does nothing."""
    return Receiver(
        values, forward, backward,
        sends=[None], ticks=[0], hears=[(0,) * forward], gives=[(None,) * forward], crashes=[0],
    )


def open_sender(values=1, forward=1, backward=1):
    """A sender of one state that is always free and says nothing."""
    return Sender(
        values, forward, backward,
        sends=[None], ticks=[0], hears=[(0,) * backward], takes=[(0,) * values], crashes=[0],
    )


def deep(depth, seed=0):
    """Lists and tuples within one another."""
    thing = seed
    for level in range(depth):
        thing = [thing] if level % 2 else (thing,)
    return thing


def anything():
    """Things of every kind that an argument may be, right ones among them."""
    return [
        None, True, False, 0, 1, 2, -1, 10 ** 99, -(10 ** 99),
        "", " ", "~\n", "sender", "receiver", "forward", "hand", "send",
        (), (0,), (True,), (None,), ("sender",), ("sender", "receiver"), ("send",), ("hand", 0),
        [], [0], [None], ["sender"], [("send",)], [["send"]], [()], [("hand", 0)],
        {}, {"a": 1}, {0: "x"}, {None: []}, {(0, "a"): ()},
        sender(), receiver(), pair(), echo(), (pair(),), [sender()], {"pair": pair()},
        deep(60), deep(59, pair()), [0] * 4998, ["x", (1, [2, {"y": (None,)}])],
    ]


def non_integers():
    """Things that are no integers."""
    return [thing for thing in anything() if isinstance(thing, bool) or not isinstance(thing, int)]


def non_lists():
    """Things that may not stand where a list is wanted."""
    return [thing for thing in anything() if not isinstance(thing, (list, tuple))]


def non_tuples():
    """Things that may not stand where a tuple is stated."""
    return [thing for thing in anything() if not isinstance(thing, tuple)]


def non_pairs():
    """Things that are no pairs."""
    return [thing for thing in anything() if not isinstance(thing, Pair)]


def non_events(value_count):
    """Things that are none of the tuples that tell events, for so many values."""
    wrong = [thing for thing in anything() if thing != ("send",) and thing != ("hand", 0)]
    for number in [-1, value_count, 10 ** 99, *non_integers()]:
        wrong.append(("hand", number))
    for place in [-1, -(10 ** 99), *non_integers()]:
        wrong.append(("lose", "forward", place))
        wrong.append(("lose", "backward", place))
    for channel in [None, 0, "", "Forward", "forwards", "sender", ("forward",), ["forward"], deep(57), pair()]:
        wrong.append(("pass", channel))
        wrong.append(("lose", channel, 0))
    for program in [None, 0, "", "Sender", "both", "forward", ("sender",), ["sender"], pair()]:
        wrong.append(("crash", program))
    wrong += [
        ("hand",), ("hand", 0, 0), ("send", 0), ("send", None), ("answer", 0), ("pass",), ("pass", "forward", 0),
        ("lose",), ("lose", "forward"), ("lose", 0), ("lose", 0, "forward"), ("lose", "forward", 0, 0),
        ("crash",), ("crash", "sender", 0), ("Hand", 0), ("HAND", 0), ("tick",), ("send ",), (0, "hand"),
        ["hand", 0], ["send"], ["answer"], ["pass", "forward"], ["lose", "forward", 0], ["crash", "sender"],
        "send", "answer", (("send",),), (("hand",), 0), (["hand"], 0), (["send"],), (None,), (pair(),), (pair(), 0),
        (True, 0), (deep(50),), (deep(50), 0), (deep(50), "forward", 0), {"hand": 0},
    ]
    return wrong
