"""Joining places of steps that are checked already: what comes of it, all that comes of it, and how.

Places are numbered anew behind each joining: those that stay keep their sequence, each one that goes into
another one goes into a lesser one. Lots are a tuple that tells for each place of the first steps into which
place it has come by joinings; so they tell all that has been joined.
"""

from meankept.errors import TooMany
from meankept.folding import become
from meankept.walks import rank_of_steps


def leads_lower(steps, place, mate):
    """Return whether a letter leads a place and a lesser mate to a pair that comes ahead of this pair."""
    its = steps[mate]
    for letter, goal in steps[place].items():
        if letter in its:
            other = its[letter]
            high, low = (goal, other) if goal > other else (other, goal)
            if high < place or (high == place and low < mate):
                return True
    return False


def roots_joined(steps, place, mate, apart):
    """Return where each place goes by joining two places, and a dict with the new steps of some that stay.

    None if two of the first places would become one; apart tells how many places these are.
    """
    roots = list(range(len(steps)))
    grown = {}
    waiting = [(place, mate)]
    while waiting:
        one, other = waiting.pop()
        low = become(roots, one)
        high = become(roots, other)
        if low == high:
            continue
        if low > high:
            low, high = high, low
        if high < apart:
            return None
        leads = dict(grown.get(low, steps[low]))
        for letter, goal in grown.get(high, steps[high]).items():
            if letter in leads:
                waiting.append((leads[letter], goal))
            else:
                leads[letter] = goal
        grown[low] = leads
        roots[high] = low
    return roots, grown


def numbers_of(roots):
    """Return the new number of each place, for a list of where each place goes."""
    numbers = []
    many = 0
    for place, root in enumerate(roots):
        if root == place:
            numbers.append(many)
            many += 1
        else:
            numbers.append(numbers[root])
    return numbers


def steps_joined(steps, roots, grown, numbers):
    """Return the steps of the places that stay, by their new numbers."""
    return [{letter: numbers[goal] for letter, goal in grown.get(place, steps[place]).items()}
            for place, root in enumerate(roots) if root == place]


def of_staying(roots, values):
    """Return the values, of a list with one for each place, of the places that stay."""
    return [values[place] for place, root in enumerate(roots) if root == place]


def mates_of(steps, given, place):
    """Return the list of the lesser places that are given the same place, if no such pair comes ahead of theirs."""
    mine = given[place]
    return [mate for mate in range(place) if given[mate] == mine and not leads_lower(steps, place, mate)]


def all_joined(steps, given, most):
    """Return the list of all steps that come of steps by joining places that are given one place.

    Raise TooMany if they are more than most; None for most sets no bound.
    """
    found = [steps]
    # With each steps goes how many of the first places stay apart in all that comes of them. A place is
    # joined to one of these, or stays apart, too; so each steps comes just once.
    waiting = [(steps, given, 1)]
    while waiting:
        now, its, apart = waiting.pop()
        for place in range(apart, len(now)):
            for mate in mates_of(now, its, place):
                joined = roots_joined(now, place, mate, place)
                if joined is not None:
                    roots, grown = joined
                    found.append(steps_joined(now, roots, grown, numbers_of(roots)))
                    waiting.append((found[-1], of_staying(roots, its), place))
                if most is not None and len(found) > most:
                    raise TooMany(most)
    return found


def meet_pairs(steps, pair, met):
    """Put into the dict met all pairs of places to which the places of a pair lead by the same letters."""
    met[pair] = True
    waiting = [pair]
    while waiting:
        place, mate = waiting.pop()
        for letter, goal in steps[place].items():
            if letter in steps[mate]:
                other = steps[mate][letter]
                found = (max(goal, other), min(goal, other))
                if found not in met:
                    met[found] = True
                    waiting.append(found)


def first_pairs(steps, given):
    """Return the list of pairs of places that are given one place, one for each way to join two of them."""
    met = {}
    found = []
    for place in range(len(steps)):
        for mate in range(place):
            # Joining a pair joins all pairs to which it leads; so one of them is enough.
            if given[place] == given[mate] and (place, mate) not in met:
                meet_pairs(steps, (place, mate), met)
                found.append((place, mate))
    return found


def add_joined(graph, lots, given, most):
    """Add to a graph all that comes of lots by one joining of places that are given one place; return what is new."""
    steps, its = graph[lots]
    found = []
    for place, mate in first_pairs(steps, [given[lots.index(at)] for at in range(len(steps))]):
        roots, grown = roots_joined(steps, place, mate, 0)
        numbers = numbers_of(roots)
        other = tuple([numbers[at] for at in lots])
        its.setdefault(other, (lots.index(mate), lots.index(place)))
        if other not in graph:
            graph[other] = (steps_joined(steps, roots, grown, numbers), {})
            found.append(other)
            if len(graph) > most:
                raise TooMany(most)
    return found


def joining_graph(steps, given, most):
    """Return a dict from all lots that come of steps by joining places that are given one place.

    It leads to a pair: the steps that come, and a dict from the lots that come of these lots by one joining
    to the pair of places of the first steps that are joined. The lots stand in the order of how many
    joinings they need, those of the first steps first. Raise TooMany if they are more than most.
    """
    first = tuple(range(len(steps)))
    graph = {first: (steps, {})}
    waiting = [first]
    at = 0
    while at < len(waiting):
        found = add_joined(graph, waiting[at], given, most)
        waiting.extend(found)
        at += 1
    return graph


def all_came(graph):
    """Return a dict from the lots of a graph to the lots and the pair by which they come with fewest joinings.

    The first lots have None.
    """
    came = {lots: None for lots in list(graph)[:1]}
    for lots, (_, others) in graph.items():
        for other, pair in others.items():
            came.setdefault(other, (lots, pair))
    return came


def raising(graph):
    """Return a dict from the lots of a graph to the list of lots that come by one joining and raise the rank.

    A joining raises the rank by one at most.
    """
    ranks = {lots: rank_of_steps(steps) for lots, (steps, _) in graph.items()}
    return {lots: [other for other in others if ranks[other] > ranks[lots]] for lots, (_, others) in graph.items()}


def free_lots(graph):
    """Return a dict of the lots of a graph in which the first lots are free, each leading to True.

    They come by joinings of which each raises the rank.
    """
    raised = raising(graph)
    found = {lots: True for lots in list(graph)[:1]}
    # Lots that need more joinings stand further behind.
    for lots in graph:
        if lots in found:
            for other in raised[lots]:
                found[other] = True
    return found
