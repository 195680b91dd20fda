"""Worlds that are saved as values and opened again, and lasting cuts (point 45)."""

from onescore.meaning import Memory
from onescore.runner import Runner, Standing
from onescore.world import World


def pairs_of(table):
    """Returns the tuple of the pairs of keys and values of a dict."""
    return tuple(table.items())


def saved_memory(memory):
    """Returns everything that an end keeps by itself but its inputs as a value."""
    return (memory.used, pairs_of(memory.variables), pairs_of(memory.rounds))


def opened_memory(inputs, saved):
    """Returns what an end with these inputs keeps by itself, from its value."""
    memory = Memory(inputs)
    used, variables, rounds = saved
    memory.used = used
    memory.variables = dict(variables)
    memory.rounds = dict(rounds)
    return memory


def saved_standing(standing):
    """Returns what a checkpoint keeps of a runner as a value."""
    letters = {other: tuple(standing.letters[other]) for other in standing.letters}
    return (saved_memory(standing.memory), standing.state, pairs_of(letters), pairs_of(standing.sent),
            pairs_of(standing.receipted), pairs_of(standing.taken))


def opened_standing(inputs, saved):
    """Returns what a checkpoint keeps of a runner with these inputs, from its value."""
    memory, state, letters, sent, receipted, taken = saved
    standing = Standing([], [])
    standing.memory = opened_memory(inputs, memory)
    standing.state = state
    standing.letters = {other: list(rows) for other, rows in letters}
    standing.sent = dict(sent)
    standing.receipted = dict(receipted)
    standing.taken = dict(taken)
    return standing


def saved_runner(runner):
    """Returns everything of a runner but its table and inputs as a value."""
    return (saved_standing(runner.now), saved_standing(runner.start), tuple(runner.done), runner.done_at_start,
            tuple(runner.entries), runner.lasting, pairs_of(runner.safe), pairs_of(runner.tray))


def put_back(runner, inputs, saved):
    """Makes a runner with these inputs go on from the value of a runner with its table."""
    now, start, done, done_at_start, entries, lasting, safe, tray = saved
    runner.now = opened_standing(inputs, now)
    runner.start = opened_standing(inputs, start)
    runner.done = list(done)
    runner.done_at_start = done_at_start
    runner.entries = list(entries)
    runner.lasting = lasting
    runner.safe = dict(safe)
    runner.tray = dict(tray)


def save_world(world):
    """Returns a world as a value of tuples, strings and integers."""
    return (tuple(world.under_way), tuple([saved_runner(world.runners[end]) for end in world.runners]))


def open_world(score, inputs, saved):
    """Returns a world that goes on from the value of a world of this score with these inputs."""
    world = World(score, inputs)
    items, runners = saved
    world.under_way = list(items)
    for end, saved_one in zip(score.ends, runners):
        put_back(world.runners[end], inputs[end], saved_one)
    return world


def lasting_deeds(runner):
    """Returns the number of deeds that a runner would have done if it fell and lost all that does not last."""
    # Another runner falls in its place.
    inputs = runner.now.memory.inputs
    twin = Runner((runner.name,) + runner.others, runner.name, runner.table, inputs)
    put_back(twin, inputs, saved_runner(runner))
    twin.fall(len(runner.entries))
    return len(twin.done)


def lasting_cut(world):
    """Returns the lasting cut of a world."""
    return tuple([lasting_deeds(world.runners[end]) for end in world.runners])
