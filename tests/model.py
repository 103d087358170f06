"""The document told once more, plainly and slowly: what the program is compared with."""

import random

from wipedtalk.programs import Pair, Receiver, Sender


def after(pair, state, event):
    """The state (sender's, receiver's, forward, backward) behind an event, and the value delivered; or None."""
    at, to, forward, backward = state
    told, heard = pair.sender, pair.receiver
    if event[0] == "hand":
        if told.takes[at] is None:
            return None
        return (told.takes[at][event[1]], to, forward, backward), None
    if event == ("send",):
        more = () if told.sends[at] is None else (told.sends[at],)
        return (told.ticks[at], to, forward + more, backward), None
    if event == ("answer",):
        more = () if heard.sends[to] is None else (heard.sends[to],)
        return (at, heard.ticks[to], forward, backward + more), None
    if event == ("crash", "sender"):
        return (told.crashes[at], to, forward, backward), None
    if event == ("crash", "receiver"):
        return (at, heard.crashes[to], forward, backward), None
    if event == ("pass", "forward"):
        if forward == ():
            return None
        first = forward[0]
        return (at, heard.hears[to][first], forward[1:], backward), heard.gives[to][first]
    if event == ("pass", "backward"):
        if backward == ():
            return None
        return (told.hears[at][backward[0]], to, forward, backward[1:]), None
    place = event[2]
    if event[1] == "forward":
        if place >= len(forward):
            return None
        return (at, to, forward[:place] + forward[place + 1:], backward), None
    if place >= len(backward):
        return None
    return (at, to, forward, backward[:place] + backward[place + 1:]), None


START = (0, 0, (), ())


def states_of(pair, run):
    """The states behind 0, 1, 2 .. events of a run, and for each event the value delivered or None."""
    states = [START]
    values = []
    for event in run:
        state, value = after(pair, states[-1], event)
        states.append(state)
        values.append(value)
    return states, values


def all_events(pair, state):
    """All events of a pair that can be told, with places that are too great, too, in the order of `possible`."""
    places = range(len(state[2]) + len(state[3]) + 2)
    return [
        *[("hand", value) for value in range(pair.sender.value_count)],
        ("send",), ("answer",), ("pass", "forward"), ("pass", "backward"),
        *[("lose", "forward", place) for place in places],
        *[("lose", "backward", place) for place in places],
        ("crash", "sender"), ("crash", "receiver"),
    ]


def possible(pair, state):
    return [event for event in all_events(pair, state) if after(pair, state, event) is not None]


def rest(pair, state):
    """The tuple (values, endless, free) of what follows a state."""
    values = []
    seen = [state]
    counts = {}

    def lead(event):
        found = after(pair, seen[-1], event)
        if found is not None:
            seen.append(found[0])
            if found[1] is not None:
                values.append(found[1])

    for _ in state[2]:
        lead(("pass", "forward"))
    for _ in state[3]:
        lead(("pass", "backward"))
    while seen[-1][:2] not in counts:
        counts[seen[-1][:2]] = len(values)
        for event in [("send",), ("pass", "forward"), ("answer",), ("pass", "backward")]:
            lead(event)
    endless = counts[seen[-1][:2]] < len(values)
    free = any(pair.sender.takes[state[0]] is not None for state in seen)
    return values, endless, free


def ways_to_give(deliveries, handings, kept):
    """All ways to give deliveries to handings, as far as they matter.

    Each way is a pair: the place of the last handing that got one (or -1), and whether each
    handing ahead of it that is not excused got one. kept is the place of the first of these.
    """
    ways = {(-1, True)}
    for place, value in deliveries:
        further = set()
        for last, fair in ways:
            for at in range(last + 1, len(handings)):
                if handings[at][0] < place and handings[at][1] == value:
                    further.add((at, fair and all(left < kept for left in range(last + 1, at))))
        ways = further
    return ways


def verdict(pair, run, excusing):
    """The verdict, by a look at every way to give deliveries to handings."""
    states, outcomes = states_of(pair, run)
    later, endless, free = rest(pair, states[-1])
    deliveries = [(place, value) for place, value in enumerate(outcomes) if value is not None]
    deliveries += [(len(run), value) for value in later]
    handings = [(place, event[1]) for place, event in enumerate(run) if event[0] == "hand"]
    crashes = [place for place, event in enumerate(run) if event[0] == "crash" and event[1] in excusing]
    kept = sum(place < max(crashes, default=-1) for place, _ in handings)
    ways = ways_to_give(deliveries, handings, kept)
    if endless or not ways:
        return "wrong"
    if not any(fair and max(kept - 1, last) == len(handings) - 1 for last, fair in ways):
        return "lost"
    return "good" if free else "stuck"


BOTH = ("sender", "receiver")


def is_settled(pair, run):
    """Whether a run is settled."""
    states, outcomes = states_of(pair, run)
    handed = [event[1] for event in run if event[0] == "hand"]
    at, _, forward, backward = states[-1]
    delivered = [value for value in outcomes if value is not None]
    return delivered == handed and forward == backward == () and pair.sender.takes[at] is not None


def quiet_round(pair, state):
    """A round, told step by step: the states behind send, hearing, answer and the end, the messages, the value."""
    sent, _ = after(pair, state, ("send",))
    heard, value = after(pair, sent, ("pass", "forward")) or (sent, None)
    answered, _ = after(pair, heard, ("answer",))
    end, _ = after(pair, answered, ("pass", "backward")) or (answered, None)
    return {"sent": sent, "heard": heard, "answered": answered, "end": end, "value": value}


def quiet(pair, state, count):
    """So many rounds of the quiet talk behind a settled state; up to the first delivery, if count is None."""
    state, _ = after(pair, state, ("hand", 0))
    rounds = []
    while True:
        if len(rounds) == count or (count is None and rounds and rounds[-1]["value"] is not None):
            return rounds
        rounds.append(quiet_round(pair, state))
        state = rounds[-1]["end"]


def unheard(pair, state, rounds):
    """Whether something is delivered in the rest that follows K."""
    return rest(pair, (rounds[-1]["sent"][0], state[1], (), ()))[0] != []


def writes(pair, run):
    """The writes of a settled run, behind which the quiet talk is good."""
    state = states_of(pair, run)[0][-1]
    rounds = quiet(pair, state, None)
    if unheard(pair, state, rounds):
        crashed, _ = after(pair, rounds[-1]["heard"], ("crash", "receiver"))
        return [] if crashed[1] == state[1] else [("receiver", len(rounds))]
    found = []
    for number in range(1, len(rounds)):
        crashed, _ = after(pair, rounds[number - 1]["sent"], ("crash", "sender"))
        if crashed[0] != state[0]:
            found.append(("sender", number))
        crashed, _ = after(pair, rounds[number - 1]["answered"], ("crash", "receiver"))
        if crashed[1] != state[1]:
            found.append(("receiver", number))
    return found


def least_broken(pair, most, excusing):
    """The first broken run of at most so many events, the shortest ones first; or None."""
    runs = [[]]
    for _ in range(most + 1):
        for run in runs:
            if verdict(pair, run, excusing) != "good":
                return run
        runs = [run + [event] for run in runs for event in possible(pair, states_of(pair, run)[0][-1])]
    return None


def random_pair(chance, most_states=3):
    """Some pair, mostly one that delivers little."""
    values = chance.randint(1, 2)
    forward = chance.randint(1, 2)
    backward = chance.randint(1, 2)
    many = chance.randint(1, most_states)
    states = range(many)

    def state():
        return chance.randrange(many)

    def perhaps(limit, likely):
        return chance.randrange(limit) if chance.random() < likely else None

    told = Sender(
        values, forward, backward,
        sends=[perhaps(forward, 0.7) for _ in states],
        ticks=[state() for _ in states],
        hears=[tuple(state() for _ in range(backward)) for _ in states],
        takes=[
            tuple(state() for _ in range(values)) if at == 0 or chance.random() < 0.2 else None
            for at in states
        ],
        crashes=[state() for _ in states],
    )
    many = chance.randint(1, most_states)
    states = range(many)
    heard = Receiver(
        values, forward, backward,
        sends=[perhaps(backward, 0.7) for _ in states],
        ticks=[state() for _ in states],
        hears=[tuple(state() for _ in range(forward)) for _ in states],
        gives=[tuple(perhaps(values, 0.25) for _ in range(forward)) for _ in states],
        crashes=[state() for _ in states],
    )
    return Pair(told, heard)


def changed_pair(chance, pair, changes):
    """A pair that differs from this one in some items of its tables, often in what its programs keep."""
    told, heard = pair.sender, pair.receiver
    names = ("sends", "ticks", "hears", "crashes")
    tables = [{name: list(getattr(program, name)) for name in names} for program in (told, heard)]
    for _ in range(changes):
        side = chance.randrange(2)
        table = tables[side]
        many = len(table["sends"])
        at = chance.randrange(many)
        kind = chance.choice(names)
        if kind == "crashes":
            table["crashes"] = chance.choice(
                [[0] * many, list(range(many)), [chance.randrange(many) for _ in range(many)]]
            )
        elif kind == "sends":
            table["sends"][at] = chance.choice([None, *range((told.forward, told.backward)[side])])
        elif kind == "ticks":
            table["ticks"][at] = chance.randrange(many)
        else:
            row = list(table["hears"][at])
            row[chance.randrange(len(row))] = chance.randrange(many)
            table["hears"][at] = tuple(row)
    counts = (told.value_count, told.forward, told.backward)
    return Pair(
        Sender(*counts, takes=told.takes, **tables[0]),
        Receiver(*counts, gives=heard.gives, **tables[1]),
    )


def random_run(chance, pair, length):
    """Some run of so many events, and with not too many handings."""
    run = []
    state = START
    for _ in range(length):
        events = possible(pair, state)
        hands = [event for event in events if event[0] == "hand"]
        others = [event for event in events if event[0] != "hand"]
        moves = [event for event in others if event[0] in ("send", "pass", "answer")]
        kind = chance.random()
        if hands and kind < 0.3 and sum(event[0] == "hand" for event in run) < 8:
            event = chance.choice(hands)
        elif kind < 0.85:
            event = chance.choice(moves)
        else:
            event = chance.choice(others)
        run.append(event)
        state = after(pair, state, event)[0]
    return run


def rest_events(pair, state, rounds):
    """The events of a rest, with so many rounds."""
    events = [("pass", "forward")] * len(state[2]) + [("pass", "backward")] * len(state[3])
    for event in events:
        state, _ = after(pair, state, event)
    for _ in range(rounds):
        for event in [("send",), ("pass", "forward"), ("answer",), ("pass", "backward")]:
            found = after(pair, state, event)
            if found is not None:
                state, _ = found
                events.append(event)
    return events


def settled_runs(chance, pair, length):
    """Runs that begin alike, are followed by a rest, and are settled; the empty one always."""
    run = random_run(chance, pair, chance.randint(0, length))
    run = run + rest_events(pair, states_of(pair, run)[0][-1], 8)
    return [run[:end] for end in range(len(run) + 1) if is_settled(pair, run[:end])]


def samples(count, seed, length=14):
    """Pairs with a run each."""
    chance = random.Random(seed)
    for _ in range(count):
        pair = random_pair(chance)
        yield pair, random_run(chance, pair, chance.randint(0, length))
