"""Rows of nodes: (kind, pairs (room, number)), one for each node.

Boxes may be of very many nodes in one chain, so nothing here calls itself: what is still to do waits in a list.
"""


def numbered(rows, root):
    """The rows of all that is behind the root, renumbered as the nodes are met first."""
    numbers = {}
    waiting = [root]
    while waiting:
        at = waiting.pop()
        if at not in numbers:
            numbers[at] = len(numbers)
            # What waits last is met first; a node may wait several times, and only its first turn counts.
            waiting.extend([number for room, number in sorted(rows[at][1], reverse=True)])
    return tuple([renumbered(rows[at], numbers) for at in numbers])


def renumbered(row, numbers):
    """The row with its rooms rising and the new numbers in them."""
    kind, pairs = row
    return kind, tuple([(room, numbers[number]) for room, number in sorted(pairs)])


def tags_of(rows):
    """The tag of each node that has one, by its number."""
    comings = [0 for row in rows]
    comings[0] = 1
    for kind, pairs in rows:
        for room, number in pairs:
            comings[number] += 1
    tags = {}
    for number, many in enumerate(comings):
        if many > 1:
            tags[number] = "#" + str(len(tags) + 1)
    return tags


def text_of(rows):
    """The text of the first of numbered rows."""
    tags = tags_of(rows)
    pieces = []
    met = 0
    waiting = [0]
    while waiting:
        item = waiting.pop()
        if isinstance(item, str):
            pieces.append(item)
        elif item < met:
            pieces.append(tags[item])
        else:
            met += 1
            pieces.append(head_of(rows, item, tags))
            waiting.extend(rest_of(rows, item))
    return "".join(pieces)


def head_of(rows, number, tags):
    """What stands ahead of a node's bracket where the node is met first."""
    kind = rows[number][0]
    if number in tags:
        return tags[number] + "=" + kind
    return kind


def rest_of(rows, number):
    """What stands behind a node's kind, the last first: texts, and the numbers of nodes whose texts stand there."""
    pairs = rows[number][1]
    if not pairs:
        return []
    rest = []
    lead = "["
    for room, there in pairs:
        rest.extend([lead + room + ":", there])
        lead = " "
    rest.append("]")
    return rest[::-1]
