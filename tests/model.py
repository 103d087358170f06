"""The document told once more, plainly and slowly: what the program is compared with."""

import random
from itertools import combinations

from wipedtalk.programs import Pair, Receiver, Sender


def after(pair, state, event):
    """The state (sender's, receiver's, forward, backward) behind an event, and the value delivered; or None."""
    at, to, forward, backward = state
    told, heard = pair.sender, pair.receiver
    if event[0] == "hand":
        if told.takes[at] is None:
            return None
        return (told.takes[at][event[1]], to, forward, backward), None
    if event == ("send",):
        more = () if told.sends[at] is None else (told.sends[at],)
        return (told.ticks[at], to, forward + more, backward), None
    if event == ("answer",):
        more = () if heard.sends[to] is None else (heard.sends[to],)
        return (at, heard.ticks[to], forward, backward + more), None
    if event == ("crash", "sender"):
        return (told.crashes[at], to, forward, backward), None
    if event == ("crash", "receiver"):
        return (at, heard.crashes[to], forward, backward), None
    if event == ("pass", "forward"):
        if forward == ():
            return None
        first = forward[0]
        return (at, heard.hears[to][first], forward[1:], backward), heard.gives[to][first]
    if event == ("pass", "backward"):
        if backward == ():
            return None
        return (told.hears[at][backward[0]], to, forward, backward[1:]), None
    place = event[2]
    if event[1] == "forward":
        if place >= len(forward):
            return None
        return (at, to, forward[:place] + forward[place + 1:], backward), None
    if place >= len(backward):
        return None
    return (at, to, forward, backward[:place] + backward[place + 1:]), None


START = (0, 0, (), ())


def states_of(pair, run):
    """The states behind 0, 1, 2 .. events of a run, and for each event the value delivered or None."""
    states = [START]
    values = []
    for event in run:
        state, value = after(pair, states[-1], event)
        states.append(state)
        values.append(value)
    return states, values


def all_events(pair, state):
    """All events of a pair that can be told, with places that are too great, too, in the order of `possible`."""
    places = range(len(state[2]) + len(state[3]) + 2)
    return [
        *[("hand", value) for value in range(pair.sender.value_count)],
        ("send",), ("answer",), ("pass", "forward"), ("pass", "backward"),
        *[("lose", "forward", place) for place in places],
        *[("lose", "backward", place) for place in places],
        ("crash", "sender"), ("crash", "receiver"),
    ]


def possible(pair, state):
    return [event for event in all_events(pair, state) if after(pair, state, event) is not None]


def rest(pair, state):
    """The tuple (values, endless, free) of what follows a state."""
    values = []
    seen = [state]
    counts = {}

    def lead(event):
        found = after(pair, seen[-1], event)
        if found is not None:
            seen.append(found[0])
            if found[1] is not None:
                values.append(found[1])

    for _ in state[2]:
        lead(("pass", "forward"))
    for _ in state[3]:
        lead(("pass", "backward"))
    while seen[-1][:2] not in counts:
        counts[seen[-1][:2]] = len(values)
        for event in [("send",), ("pass", "forward"), ("answer",), ("pass", "backward")]:
            lead(event)
    endless = counts[seen[-1][:2]] < len(values)
    free = any(pair.sender.takes[state[0]] is not None for state in seen)
    return values, endless, free


def verdict(pair, run, excusing):
    """The verdict, by a look at every way to give deliveries to handings."""
    states, outcomes = states_of(pair, run)
    later, endless, free = rest(pair, states[-1])
    deliveries = [(place, value) for place, value in enumerate(outcomes) if value is not None]
    deliveries += [(len(run), value) for value in later]
    handings = [(place, event[1]) for place, event in enumerate(run) if event[0] == "hand"]
    crashes = [place for place, event in enumerate(run) if event[0] == "crash" and event[1] in excusing]
    last = max(crashes, default=-1)
    if endless:
        return "wrong"
    ways = []
    for chosen in combinations(handings, len(deliveries)):
        if all(given[0] < told[0] and given[1] == told[1] for given, told in zip(chosen, deliveries)):
            ways.append(chosen)
    if not ways:
        return "wrong"
    if not any(all(handing in chosen or handing[0] < last for handing in handings) for chosen in ways):
        return "lost"
    return "good" if free else "stuck"


def random_pair(chance, most_states=3):
    """Some pair, mostly one that delivers little."""
    values = chance.randint(1, 2)
    forward = chance.randint(1, 2)
    backward = chance.randint(1, 2)
    many = chance.randint(1, most_states)
    states = range(many)

    def state():
        return chance.randrange(many)

    def perhaps(limit, likely):
        return chance.randrange(limit) if chance.random() < likely else None

    told = Sender(
        values, forward, backward,
        sends=[perhaps(forward, 0.7) for _ in states],
        ticks=[state() for _ in states],
        hears=[tuple(state() for _ in range(backward)) for _ in states],
        takes=[
            tuple(state() for _ in range(values)) if at == 0 or chance.random() < 0.2 else None
            for at in states
        ],
        crashes=[state() for _ in states],
    )
    many = chance.randint(1, most_states)
    states = range(many)
    heard = Receiver(
        values, forward, backward,
        sends=[perhaps(backward, 0.7) for _ in states],
        ticks=[state() for _ in states],
        hears=[tuple(state() for _ in range(forward)) for _ in states],
        gives=[tuple(perhaps(values, 0.25) for _ in range(forward)) for _ in states],
        crashes=[state() for _ in states],
    )
    return Pair(told, heard)


def random_run(chance, pair, length):
    """Some run of so many events, and with not too many handings."""
    run = []
    state = START
    for _ in range(length):
        events = possible(pair, state)
        hands = [event for event in events if event[0] == "hand"]
        others = [event for event in events if event[0] != "hand"]
        moves = [event for event in others if event[0] in ("send", "pass", "answer")]
        kind = chance.random()
        if hands and kind < 0.3 and sum(event[0] == "hand" for event in run) < 8:
            event = chance.choice(hands)
        elif kind < 0.85:
            event = chance.choice(moves)
        else:
            event = chance.choice(others)
        run.append(event)
        state = after(pair, state, event)[0]
    return run


def samples(count, seed, length=14):
    """Pairs with a run each."""
    chance = random.Random(seed)
    for _ in range(count):
        pair = random_pair(chance)
        yield pair, random_run(chance, pair, chance.randint(0, length))
