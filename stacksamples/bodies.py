"""What the body of a function describes: the names in it, and its net.

A plan of a body is a tuple (names, firsts, lasts, pairs, empty). Its calls are
numbered in the order in which they are written: names lists what they call, firsts
and lasts tell which of them can be the first and the last call of a word, pairs tells
which call can come directly behind which one, and empty tells whether the empty word
is described, too.

A net of a body is a tuple (names, nexts, ends). State 0 is the one ahead of all calls,
state k the one behind the call with the number k. names[k] is what this call calls,
nexts[k] lists the states to which one more call leads, and ends lists the states in
which the function can return. Each state leads to one of these.
"""


def bodies_within(item):
    """Return the bodies within an item that is not a call."""
    return item[1] if item[0] == "one" else [item[1]]


def names_in(body):
    """Return the names that are written in a body, in order, repeated ones too."""
    found = []
    for item in body:
        if isinstance(item, str):
            found.append(item)
        else:
            for inner in bodies_within(item):
                found.extend(names_in(inner))
    return found


def copied_body(body):
    """Return a body that is equal to another one and shares no list with it."""
    found = []
    for item in body:
        if isinstance(item, str):
            found.append(item)
        elif item[0] == "one":
            found.append(("one", [copied_body(inner) for inner in item[1]]))
        else:
            found.append((item[0], copied_body(item[1])))
    return found


def _one_behind_other(plan, other):
    """Return the plan of two rows of items, the other one directly behind."""
    names, firsts, lasts, pairs, empty = plan
    other_names, other_firsts, other_lasts, other_pairs, other_empty = other
    between = [(last, first) for last in lasts for first in other_firsts]
    return (
        names + other_names,
        firsts + other_firsts if empty else firsts,
        lasts + other_lasts if other_empty else other_lasts,
        pairs + other_pairs + between,
        empty and other_empty,
    )


def _one_or_other(plan, other):
    """Return the plan of a choice between two bodies."""
    names, firsts, lasts, pairs, empty = plan
    other_names, other_firsts, other_lasts, other_pairs, other_empty = other
    return names + other_names, firsts + other_firsts, lasts + other_lasts, pairs + other_pairs, empty or other_empty


def _plan_of_item(item, number):
    """Return the plan of an item whose first call has this number."""
    if isinstance(item, str):
        return [item], [number], [number], [], False
    inner = bodies_within(item)
    plan = _plan_of_body(inner[0], number)
    for body in inner[1:]:
        plan = _one_or_other(plan, _plan_of_body(body, number + len(plan[0])))
    names, firsts, lasts, pairs, empty = plan
    if item[0] == "one":
        return plan
    if item[0] == "loop":
        pairs = pairs + [(last, first) for last in lasts for first in firsts]
    return names, firsts, lasts, pairs, True


def _plan_of_body(body, number):
    """Return the plan of a body whose first call has this number."""
    plan = ([], [], [], [], True)
    for item in body:
        plan = _one_behind_other(plan, _plan_of_item(item, number + len(plan[0])))
    return plan


def net_of(body):
    """Return the net of a body."""
    names, firsts, lasts, pairs, empty = _plan_of_body(body, 1)
    moves = [(0, first) for first in firsts] + pairs
    nexts = [
        sorted({after for before, after in moves if before == state})
        for state in range(len(names) + 1)
    ]
    ends = [0] + lasts if empty else lasts
    return [None] + names, nexts, ends


def states_after(net, states, name):
    """Return the ascending list of the states to which one more call leads from some states of a net."""
    names, nexts, _ = net
    return sorted({after for state in states for after in nexts[state] if names[after] == name})


def states_behind(net, word):
    """Return the ascending list of the states in which a net can be behind a word."""
    states = [0]
    for name in word:
        states = states_after(net, states, name)
    return states


def word_around(net, part):
    """Return a shortest word of a net of which this word is a part, None if there is none."""
    names, nexts, ends = net
    # A place is a state and the number of names of the part that are met until there.
    # To meet a name as soon as possible never spoils what can follow.
    came_from = {(0, 0): None}
    places = [(0, 0)]
    at = 0
    while at < len(places):
        state, met = places[at]
        if met == len(part) and state in ends:
            return _names_on_way(names, came_from, places[at])
        for after in nexts[state]:
            is_met = met < len(part) and names[after] == part[met]
            place = (after, met + 1 if is_met else met)
            if place not in came_from:
                came_from[place] = (state, met)
                places.append(place)
        at = at + 1
    return None


def _names_on_way(names, came_from, place):
    """Return the names that are called on the way to a place."""
    found = []
    while came_from[place] is not None:
        found.append(names[place[0]])
        place = came_from[place]
    return found[::-1]


def _limited_item(item, names):
    """Return the rest of an item of a body in which only some names occur: no item or one, None if there is none."""
    if isinstance(item, str):
        return [item] if item in names else None
    bodies = [limited_body(body, names) for body in bodies_within(item)]
    bodies = [body for body in bodies if body is not None]
    if item[0] == "one" and not bodies:
        return None
    # Bodies without names describe the empty word alone.
    if not any([names_in(body) for body in bodies]):
        return []
    return [(item[0], bodies if item[0] == "one" else bodies[0])]


def limited_body(body, names):
    """Return a body that describes the words of a body in which only some names occur, None if there are none."""
    found = []
    for item in body:
        rest = _limited_item(item, names)
        if rest is None:
            return None
        found.extend(rest)
    return found


def bodies_ahead(body, names, callees):
    """Return bodies that together describe what is called, of some names only, ahead of a call of some callees."""
    found = []
    ahead = []
    for item in body:
        if isinstance(item, str):
            found.extend([ahead] if item in callees else [])
        else:
            again = _limited_item(item, names) if item[0] == "loop" else []
            for inner in bodies_within(item):
                found.extend([ahead + again + rest for rest in bodies_ahead(inner, names, callees)])
        rest = _limited_item(item, names)
        if rest is None:
            return found
        ahead = ahead + rest
    return found
