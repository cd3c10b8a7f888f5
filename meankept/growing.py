"""Houses as far as rows go through them: steps that grow as rows need them, in all manners."""

from meankept.walks import add_step


def grown(steps, letter, place, goal):
    """Return steps with one more, by which letter leads from place to goal, which may be a new place."""
    found = [dict(leads) for leads in steps]
    if goal == len(steps):
        found.append({})
    add_step(found, place, letter, goal)
    return found


def kept_steps(begun, row, most):
    """Return all steps, of at most so many places, that come of those begun by letting row keep the place 0.

    Each new place is the next number; so no two of them are alike if no two of those begun are.
    """
    waiting = [(steps, 0, 0) for steps in begun]
    found = []
    while waiting:
        steps, at, place = waiting.pop()
        while at < len(row) and row[at] in steps[place]:
            place = steps[place][row[at]]
            at += 1
        if at == len(row):
            if place == 0:
                found.append(steps)
            continue
        # The last letter has to lead to the beginning.
        goals = list(range(min(len(steps) + 1, most))) if at + 1 < len(row) else [0]
        for goal in goals:
            if goal == len(steps) or -row[at] not in steps[goal]:
                waiting.append((grown(steps, row[at], place, goal), at, place))
    return found
