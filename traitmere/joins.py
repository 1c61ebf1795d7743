"""Joins: the greatest box at rest below others."""

from traitmere.web import Web


def join(kinds, one, other):
    """The greatest box at rest below both, or None."""
    return join_all(kinds, [one, other])


def rest(kinds, box):
    """The greatest box at rest below the box, or None."""
    return join_all(kinds, [box])


def join_all(kinds, boxes):
    """The greatest box at rest below all of one box and more, or None."""
    web = Web(kinds)
    root = web.bring(boxes[0].kind())
    for box in boxes:
        web.lay(root, box)
    if not web.settle():
        return None
    return web.told(root)
