"""A small machine whose rows tell a box, and join it with another one."""

from traitmere.web import Web


def compiled(box):
    """The machine's rows for a box: each node's rows stand where the node is met first."""
    rows = []
    met = 0
    waiting = [(0, "", 0)]
    while waiting:
        number, room, there = waiting.pop()
        if there < met:
            rows.append(("again", number, room, there))
        else:
            # The root alone is met by no room.
            if room:
                rows.append(("room", number, room, there))
            met += 1
            kind, pairs = box.rows[there]
            rows.append(("kind", there, kind))
            waiting.extend([(there, inner, behind) for inner, behind in reversed(pairs)])
    return rows


def run(kinds, rows, box):
    """What the rows make of a box, or None where something can't be."""
    web = Web(kinds)
    root = web.bring(box.kind())
    web.lay(root, box)
    held = {0: root}
    for row in rows:
        take_step(web, held, row)
        # Behind a break a kind may lack rooms that the next rows take for granted.
        if web.broken:
            return None
    if not web.settle():
        return None
    return web.told(root)


def take_step(web, held, row):
    """Do what one row says, with the things that are held by their numbers."""
    word, number, *more = row
    thing = held[number]
    if word == "kind":
        web.narrow(thing, more[0])
        return
    room, there = more
    if word == "again":
        web.lead(thing, room, held[there])
    else:
        held[there] = web.enter(thing, room, web.table.let_in(web.kind_of(thing), room))
