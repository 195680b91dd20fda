"""Clear and unclear scores, and witnesses (points 11 and 12)."""

from onescore.trees import key_of
from onescore.ways import act_at, acts_agree, concerns, is_way, look_at, place, steps_at


def rest(score, end, positions):
    """Returns the ascending list of the rest of a list of positions."""
    reached = set()
    waiting = list(positions)
    while waiting:
        position = waiting.pop()
        if position in reached:
            continue
        reached.add(position)
        if position < len(score.statements) and not concerns(score, position, end):
            waiting.extend(score.next[position])
    return sorted(reached)


def behind(score, end, positions, look):
    """Returns the ascending list of the set behind a look, for the ascending list of a rest."""
    wanted = key_of(look)
    goals = []
    for position in positions:
        for answer, goal in steps_at(score, position):
            if concerns(score, position, end) and key_of(look_at(score, position, answer, end)) == wanted:
                goals.append(goal)
    return rest(score, end, goals)


def moves(acts, steps, first, second):
    """Returns how two ways of which an end sees the same go on from their places.

    Each move is a tuple (places, first step, second step). Only one way goes
    on at a time, the first one if it can, until the end must act at both
    places: that leaves out no pair of places at which it must act.
    """
    if acts[first] is None:
        return [((goal, second), (first, answer), None) for answer, goal in steps[first]]
    if acts[second] is None:
        return [((first, goal), None, (second, answer)) for answer, goal in steps[second]]
    if acts[first] != acts[second]:
        return []
    return [((goal, other_goal), (first, answer), (second, answer))
            for (answer, goal), (_, other_goal) in zip(steps[first], steps[second])]


def ways_to(places, came):
    """Returns the two ways that lead to a pair of places; came has the move to each pair, with the pair before."""
    first = []
    second = []
    while came[places] is not None:
        places, step, other_step = came[places]
        if step is not None:
            first.append(step)
        if other_step is not None:
            second.append(other_step)
    return (first[::-1], second[::-1])


def unclear_ways(score, end):
    """Returns two ways that are a witness for an end, or None if there are none."""
    many = len(score.statements) + 1
    acts = [act_at(score, position, end) for position in range(many)]
    steps = [steps_at(score, position) for position in range(many)]
    # Each pair of places comes up once, and each move to one has at most two
    # steps: so the ways have fewer than 2 * many ** 2 steps.
    came = {(0, 0): None}
    pairs = [(0, 0)]
    done = 0
    while done < len(pairs):
        places = pairs[done]
        done += 1
        first, second = places
        if acts[first] is not None and acts[second] is not None and not acts_agree(acts[first], acts[second]):
            return ways_to(places, came)
        for goals, step, other_step in moves(acts, steps, first, second):
            if goals not in came:
                came[goals] = (places, step, other_step)
                pairs.append(goals)
    return None


def witness(score):
    """Returns None if a score is clear, otherwise a tuple (end, first way, second way)."""
    for end in score.ends:
        ways = unclear_ways(score, end)
        if ways is not None:
            return (end, ways[0], ways[1])
    return None


def seen_acts(score, way, end):
    """Returns pairs of act and answer for a way, which are the same for two ways exactly if the looks are."""
    acts = [act_at(score, position, end) for position in range(len(score.statements))]
    return [(acts[position], answer) for position, answer in way if acts[position] is not None]


def is_witness(score, end, first, second):
    """Tells whether two lists of pairs of an integer and a string are ways that are a witness for an end."""
    if not is_way(score, first) or not is_way(score, second):
        return False
    if seen_acts(score, first, end) != seen_acts(score, second, end):
        return False
    act = act_at(score, place(score, first), end)
    other = act_at(score, place(score, second), end)
    return act is not None and other is not None and not acts_agree(act, other)
