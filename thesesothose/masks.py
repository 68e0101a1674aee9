"""Lots as masks: integers with a bit for each mark, which close far faster than tuples do.

The marks whose indexes are the places of the bits are told each time.
"""


def mask_of(marks, lot):
    """The mask of a lot of the marks."""
    return sum([1 << place for place, mark in enumerate(marks) if mark in lot])


def lot_from(marks, mask):
    """The lot of the marks that has a mask."""
    return tuple([mark for place, mark in enumerate(marks) if mask >> place & 1])


def closed_by_rows(pairs, mask):
    """The least mask with all of a mask that keeps the rows, told as pairs of masks."""
    reached = mask
    grows = True
    while grows:
        before = reached
        for ahead, behind in pairs:
            if ahead & reached == ahead:
                reached = reached | behind
        grows = reached != before
    return reached


def closed_by_lots(masks, everything, mask):
    """What all those masks have in common which a mask is within, or everything if there is none."""
    reached = everything
    for other in masks:
        if mask & other == mask:
            reached = reached & other
    return reached
