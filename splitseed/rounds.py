"""Counts over all states of small machines: what a shape takes how often."""

from splitseed.kinds import alike
from splitseed.shapes import check_total

# As many as there are numbers of twelve figures of two.
MOST_GONE_THROUGH = 2 ** 12


def tally(machine, shape):
    """How often each outcome of a shape comes over all states of a machine, and how many states are thrown away."""
    states = 1 << machine.width
    check_total(states, MOST_GONE_THROUGH)
    check_total(shape.numbers(), states)
    times = {outcome: 0 for outcome, many in shape.all_outcomes()}
    thrown = 0
    for spot in range(states):
        outcome = shape.of(machine.onward(spot), machine.width)
        if outcome is None:
            thrown += 1
        else:
            times[outcome] += 1
    return (list(times.items()), thrown)


def is_tally(machine, shape, thing):
    """Whether any thing is what tally tells, of the same kinds in all its parts."""
    return alike(tally(machine, shape), thing)


def outcome_at(machine, shape, seed, path, place):
    """What the shape takes the state of seed, path and place to; refused as the state is, then as the shape."""
    return shape.of(machine.state(seed, path, place), machine.width)


def by_seeds(machine, shape, path, place):
    """For each seed, what the shape takes its state at this path and place to, or None."""
    check_total(machine.seeds(), MOST_GONE_THROUGH)
    return [outcome_at(machine, shape, seed, path, place) for seed in range(machine.seeds())]


def by_places(machine, shape, seed, path):
    """For each place, what the shape takes the state of this seed and path there to, or None."""
    check_total(machine.length(), MOST_GONE_THROUGH)
    return [outcome_at(machine, shape, seed, path, place) for place in range(machine.length())]


def takings_by(outcomes):
    """The takings of a hand, of what the shape takes the states of its places to."""
    found = []
    start = 0
    for place, outcome in enumerate(outcomes):
        if outcome is not None:
            found.append((start, place + 1 - start, outcome))
            start = place + 1
    return found


def takings(machine, shape, path):
    """For each seed, the takings of its hand of this path, one right behind the other from place 0 on."""
    check_total(machine.seeds() * machine.length(), MOST_GONE_THROUGH)
    return [takings_by(by_places(machine, shape, seed, path)) for seed in range(machine.seeds())]
