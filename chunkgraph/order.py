"""The order of need, and what is counted by going along it."""

from chunkgraph.graph import chunks_used, live_lines, needs_at_all


# The numbers of the nodes in the order in which they are taken; needs are those at all.
def order_of_need(needs):
    taken = {}
    number = first_free(needs, taken)
    while number is not None:
        taken[number] = True
        number = first_free(needs, taken)
    return list(taken)


# The first node that is not taken and all of whose needs are, or None if there is none.
def first_free(needs, taken):
    for number, needed in enumerate(needs):
        if number not in taken and all([other in taken for other in needed]):
            return number
    return None


# Each node that is left needs another one that is left; as there are only so many, such steps come round at last.
def has_circle(needs):
    return len(order_of_need(needs)) < len(needs)


# For each node how many steps the longest way has that begins with it; there must be no circle.
def depths(needs):
    found = {}
    for number in order_of_need(needs):
        found[number] = max([found[needed] + 1 for needed in needs[number]], default=0)
    return found


# For each node how often a chunk is put into it under a variant; there must be no circle.
def copies_of(document, chunk, variant):
    found = {}
    # What a node needs under a variant it needs at all, so this order does for every variant.
    for number in order_of_need(needs_at_all(document)):
        used = chunks_used(document, live_lines(document.nodes[number], variant))
        found[number] = sum([1 if other == chunk else found[other] for other in used])
    return found
