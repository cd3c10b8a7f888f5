"""The web of plain rows: rings of ties hung on one place, of which like ones become one."""

from meankept.walks import numbered


def hung_rings(rows):
    """Return how many places rings of ties for plain rows have, all hung on the place 0, and the ties.

    A tie is told by any letter here, not only by a deed.
    """
    places = 1
    ties = []
    for row in rows:
        place = 0
        goals = list(range(places, places + len(row) - 1)) + [0]
        for letter, goal in zip(row, goals):
            ties.append((place, letter, goal))
            place = goal
        places += len(goals) - 1
    return places, ties


def become(stands_for, place):
    """Return the place that place has become by now."""
    while stands_for[place] != place:
        # This keeps the way short for later questions.
        stands_for[place] = stands_for[stands_for[place]]
        place = stands_for[place]
    return place


def folded_steps(places, ties):
    """Return the steps of ties of which no two of one letter lead from one place, and where the place 0 is."""
    stands_for = list(range(places))
    steps = [{} for place in range(places)]
    waiting = list(ties)
    while waiting:
        place, letter, goal = waiting.pop()
        for start, step, end in ((place, letter, goal), (goal, -letter, place)):
            mine = become(stands_for, end)
            known = steps[become(stands_for, start)].setdefault(step, mine)
            other = become(stands_for, known)
            if other != mine:
                stands_for[mine] = other
                waiting.extend([(other, sign, far) for sign, far in steps[mine].items()])
                steps[mine] = {}
    found = [{mark: become(stands_for, at) for mark, at in leads.items()} for leads in steps]
    return found, become(stands_for, 0)


def web_of_plain(deeds, rows):
    """Return the web of plain rows."""
    places, ties = hung_rings(rows)
    # A plain row never goes back at once, folded or not; so each place but the first one keeps two ends
    # of ties, and none is to be taken off.
    steps, first = folded_steps(places, ties)
    return numbered(deeds, steps, first)
