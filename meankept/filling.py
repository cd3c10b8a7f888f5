"""Houses that have all steps of some others, of which each letter leads no two places to one."""


def filled_order(goals):
    """Return the tuple of goals, with each None exchanged for a place of them that is no goal, ascending."""
    left = [place for place in range(len(goals)) if place not in goals]
    order = []
    for goal in goals:
        order.append(left.pop(0) if goal is None else goal)
    return tuple(order)


def filled_house(deeds, steps):
    """Return a house on the places of steps that has all steps."""
    return tuple([filled_order([leads.get(deed) for leads in steps]) for deed in range(1, deeds + 1)])
