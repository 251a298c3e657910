"""Lots as masks, for what goes through all lots of a recipe.

The mask of a lot is the number whose bit at place j is 1 if block j is in the
lot. Tables are lists that have at the place of a mask what is told of its lot;
the last mask is that of all new blocks.
"""


def lot_of(mask):
    """The lot that has a mask."""
    return [block for block in range(mask.bit_length()) if has(mask, block)]


def mask_of(lot):
    """The mask of a lot."""
    mask = 0
    for block in lot:
        mask = with_block(mask, block)
    return mask


def has(mask, block):
    """Whether the lot of a mask has a block."""
    return (mask >> block) & 1 == 1


def with_block(mask, block):
    """The mask of the lot with one block more."""
    return mask | (1 << block)


def without_block(mask, block):
    """The mask of the lot with one block less, a block that it has."""
    return mask - (1 << block)


def ones(mask):
    """How many blocks the lot of a mask has."""
    total = 0
    rest = mask
    while rest:
        # This clears the last bit that is 1.
        rest = rest & (rest - 1)
        total += 1
    return total


def lacking_blocks(mask, size):
    """The ascending list of the blocks, of so many, that the lot of a mask lacks."""
    return [block for block in range(size) if not has(mask, block)]


def all_held(recipe):
    """The table of what the lots of a recipe hold."""
    covers = [0]
    for row in _rows(recipe):
        # The lots without the block stand ahead of those with it, as their masks do.
        covers = covers + [cover | row for cover in covers]
    last = len(covers) - 1
    # What is needed behind a lot is what the blocks of the lot of all others need.
    return [ones(mask) + ones(covers[last - mask]) for mask in range(len(covers))]


def heights_to(table, end):
    """The table of the least heights of the roads from lots within the lot of a mask to it."""
    heights = list(table)
    for mask in reversed(range(end)):
        if mask & end == mask:
            onward = [heights[with_block(mask, block)] for block in lot_of(end - mask)]
            heights[mask] = max(heights[mask], min(onward))
    return heights


def _rows(recipe):
    """For each new block the mask of what it needs, the old blocks numbered as they come."""
    # Only the blocks that are needed get a place, so idle ones cost nothing, however many they are.
    places = {}
    rows = []
    for needs in recipe.needs():
        row = 0
        for block in needs:
            place = places.setdefault(block, len(places))
            row = with_block(row, place)
        rows.append(row)
    return rows
