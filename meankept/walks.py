"""Work on the steps of webs and houses that are checked already.

Steps are a list with a dict for each place, from the letters that lead from it to the places to which
they lead.
"""

from meankept.letters import undone_letters


def tried_letters(deeds):
    """Return all letters in the sequence in which they are tried at a place."""
    return [letter for deed in range(1, deeds + 1) for letter in (deed, -deed)]


def add_step(steps, place, letter, goal):
    """Let letter lead from place to goal, and its undo back."""
    steps[place][letter] = goal
    steps[goal][-letter] = place


def steps_of(web):
    """Return the steps of a web."""
    _, places, ties = web
    steps = [{} for place in range(places)]
    for place, deed, goal in ties:
        add_step(steps, place, deed, goal)
    return steps


def house_steps(house):
    """Return the steps of a house."""
    steps = [{} for place in house[0]]
    for at, order in enumerate(house):
        for place, goal in enumerate(order):
            add_step(steps, place, at + 1, goal)
    return steps


def walked(steps, letters, place):
    """Return the place to which letters are read from place, None if they cannot be read."""
    for letter in letters:
        if letter not in steps[place]:
            return None
        place = steps[place][letter]
    return place


def walked_on(steps, letters, place):
    """Return the place to which letters lead from place, with new places and steps where they cannot be read."""
    for letter in letters:
        if letter not in steps[place]:
            steps.append({})
            add_step(steps, place, letter, len(steps) - 1)
        place = steps[place][letter]
    return place


def take_off_ends(steps, first):
    """Take off places of steps, but first, with one end of a tie, again and again."""
    waiting = [place for place, leads in enumerate(steps) if len(leads) == 1]
    while waiting:
        place = waiting.pop()
        if place != first and len(steps[place]) == 1:
            for letter, goal in list(steps[place].items()):
                steps[place] = {}
                del steps[goal][-letter]
                waiting.append(goal)


def numbered(deeds, steps, first):
    """Return the web of the places that can be reached from the place first, numbered from it on."""
    numbers = {first: 0}
    met = [first]
    at = 0
    while at < len(met):
        leads = steps[met[at]]
        for letter in tried_letters(deeds):
            if letter in leads and leads[letter] not in numbers:
                numbers[leads[letter]] = len(met)
                met.append(leads[letter])
        at += 1
    ties = [(numbers[place], deed, numbers[goal]) for place in met
            for deed, goal in sorted(steps[place].items()) if deed > 0]
    return (deeds, len(met), tuple(ties))


def rank_of(web):
    """Return the rank of a web."""
    _, places, ties = web
    return len(ties) - places + 1


def rank_of_steps(steps):
    """Return the rank of the web of steps that hang together."""
    return sum([len(leads) for leads in steps]) // 2 - len(steps) + 1


def ties_told(deeds, steps):
    """Return a tuple that tells for each deed from how many places it leads."""
    return tuple([sum([deed in leads for leads in steps]) for deed in range(1, deeds + 1)])


def whole_web(deeds):
    """Return the web that makes all rows: one place and a tie of each deed."""
    return (deeds, 1, tuple([(0, deed, 0) for deed in range(1, deeds + 1)]))


def meetings(deeds, steps):
    """Return for each place of a numbered web from which place and by which letter it is met.

    The first place, which is met by nothing, has None.
    """
    met = [None]
    for place, leads in enumerate(steps):
        for letter in tried_letters(deeds):
            if leads.get(letter) == len(met):
                met.append((place, letter))
    return met


def all_ways(web):
    """Return the ways of all places of a web, in order."""
    found = [()]
    for place, letter in meetings(web[0], steps_of(web))[1:]:
        found.append(found[place] + (letter,))
    return found


def free_ties(web):
    """Return the ties of a web that are no last step of a way, in either direction, ascending."""
    deeds, _, ties = web
    met = meetings(deeds, steps_of(web))
    return [(place, deed, goal) for place, deed, goal in ties
            if met[goal] != (place, deed) and met[place] != (goal, -deed)]


def free_rows(web):
    """Return the rows of the free list of a web."""
    found = all_ways(web)
    return [found[place] + (deed,) + undone_letters(found[goal]) for place, deed, goal in free_ties(web)]


def spelling_of(web, letters):
    """Return the plain spelling for the free list of a web that tells a plain row, None if there is none."""
    numbers = {}
    for at, (place, deed, goal) in enumerate(free_ties(web)):
        numbers[(place, deed)] = at + 1
        numbers[(goal, -deed)] = -at - 1
    steps = steps_of(web)
    place = 0
    spelling = []
    for letter in letters:
        if letter not in steps[place]:
            return None
        if (place, letter) in numbers:
            spelling.append(numbers[(place, letter)])
        place = steps[place][letter]
    # Between two uses of a free tie there and back the row would not be plain; so the spelling is.
    return tuple(spelling) if place == 0 else None
