"""Ways through needs: for each node's number the numbers of the nodes that it needs, in their order."""


# The numbers of the nodes that a node reaches, itself among them, in their order.
def reached_from(needs, start):
    found = {start: True}
    waiting = [start]
    while len(waiting) > 0:
        number = waiting.pop()
        for needed in needs[number]:
            if needed not in found:
                found[needed] = True
                waiting.append(needed)
    return sorted(found)


# The numbers of the nodes that need a node, in their order.
def users_of(needs, target):
    return [number for number, needed in enumerate(needs) if target in needed]


# For each node that leads to the target how many steps it is away; the target itself is 0 away.
def steps_to(needs, target):
    steps = {target: 0}
    ring = [target]
    while len(ring) > 0:
        outer = []
        for number in ring:
            for user in users_of(needs, number):
                if user not in steps:
                    steps[user] = steps[number] + 1
                    outer.append(user)
        ring = outer
    return steps


# The numbers of the nodes of the least way, or an empty list if there is no way.
def least_way(needs, start, target):
    steps = steps_to(needs, target)
    way = [start]
    # A way from a node to itself begins at its target, so the target ends it from the second node on only.
    while len(way) == 1 or way[-1] != target:
        leading = [number for number in needs[way[-1]] if number in steps]
        if len(leading) == 0:
            return []
        way.append(nearest(leading, steps))
    return way


# The first of the numbers that are the fewest steps away.
def nearest(numbers, steps):
    best = numbers[0]
    for number in numbers:
        if steps[number] < steps[best]:
            best = number
    return best


# The least circle of the first node that has one, or an empty list if none has.
def first_circle(needs):
    for number in range(len(needs)):
        found = least_way(needs, number, number)
        if len(found) > 0:
            return found
    return []
