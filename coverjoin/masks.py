"""Masks, numbers above 0 taken as lots of bits: fewest bits that hit each mask, and most masks
that have no bit in common."""


def bits_of(mask):
    """The bits of a mask, as masks of one bit each, ascending."""
    bits = []
    while mask > 0:
        bit = mask & -mask
        bits.append(bit)
        mask = mask ^ bit
    return bits


def many_bits(mask):
    return len(bits_of(mask))


def least_masks(masks):
    """The masks, each once, in which no other one lies, those with fewer bits ahead.

    What hits these hits all; and in place of any other mask one that lies in it may be taken."""
    kept = []
    for _, mask in sorted([(many_bits(one), one) for one in sorted(set(masks))]):
        if not any(other & mask == other for other in kept):
            kept.append(mask)
    return kept


def _degrees(masks):
    """For each bit how many masks have it."""
    degrees = {}
    for mask in masks:
        for bit in bits_of(mask):
            degrees[bit] = degrees.get(bit, 0) + 1
    return degrees


def _spared(masks):
    """A bit that is not needed, as another one is in all masks that have it; 0 if there is none."""
    for bit in _degrees(masks):
        common = -1
        for mask in masks:
            if mask & bit > 0:
                common = common & mask
        if common != bit:
            return bit
    return 0


def _reduced(masks):
    """The pair of bits that may be taken at once, and the masks that are left to be hit then."""
    taken = 0
    masks = least_masks(masks)
    while True:
        for mask in masks:
            # A mask of one bit can be hit by this one only.
            if mask & (mask - 1) == 0:
                taken = taken | mask
        masks = [mask for mask in masks if mask & taken == 0]
        spared = _spared(masks)
        if spared == 0:
            return taken, masks
        masks = least_masks([mask & ~spared for mask in masks])


def lots_of_masks(masks):
    """The masks in lots, two that have a bit in common being in the same lot."""
    lots = []
    for mask in masks:
        linked = [lot for lot in lots if lot[0] & mask > 0]
        lots = [lot for lot in lots if lot[0] & mask == 0]
        together = mask
        members = [mask]
        for bits, others in linked:
            together = together | bits
            members = members + others
        lots.append((together, members))
    return [members for _, members in lots]


def _some_apart(masks):
    """Some masks without a common bit, those that share bits with few others ahead."""
    degrees = _degrees(masks)
    ranked = sorted([(sum([degrees[bit] for bit in bits_of(mask)]), mask) for mask in masks])
    used = 0
    found = []
    for _, mask in ranked:
        if mask & used == 0:
            used = used | mask
            found.append(mask)
    return found


def _some_hitting(masks):
    """Bits that hit each mask, each time one that hits the most of those that are left."""
    taken = 0
    left = masks
    while len(left) > 0:
        degrees = _degrees(left)
        bit = max([(degrees[bit], bit) for bit in degrees])[1]
        taken = taken | bit
        left = [mask for mask in left if mask & bit == 0]
    return taken


def fewest_bits(masks):
    """The fewest bits, in one mask, such that each of the masks has one of them."""
    found = _some_hitting(masks)
    better = _hitting(masks, many_bits(found) - 1)
    return found if better is None else better


def _hitting(masks, most):
    """The fewest bits that hit the masks, None if more than most are needed."""
    taken, masks = _reduced(masks)
    left = most - many_bits(taken)
    if left < 0 or len(_some_apart(masks)) > left:
        return None
    lots = lots_of_masks(masks)
    for lot in lots:
        found = _hitting_lot(lot, left) if len(lots) == 1 else _hitting(lot, left)
        if found is None:
            return None
        taken = taken | found
        left = left - many_bits(found)
    return taken


def _hitting_lot(masks, most):
    # A mask with fewest bits is hit by one of them: the one that most masks have is taken, or left out.
    degrees = _degrees(masks)
    bit = max([(degrees[bit], bit) for bit in bits_of(masks[0])])[1]
    best = _hitting([mask for mask in masks if mask & bit == 0], most - 1)
    if best is not None:
        best = best | bit
        most = many_bits(best) - 1
    other = _hitting([mask & ~bit for mask in masks], most)
    return best if other is None else other


def most_apart(masks):
    """As many of the masks as there can be without a common bit."""
    found = []
    for lot in lots_of_masks(_unspared(masks)):
        found = found + _most_of_lot(lot)
    return found


def _most_of_lot(masks):
    known = _some_apart(masks)
    # No more masks than bits that hit them all are apart.
    for many in range(many_bits(fewest_bits(masks)), len(known), -1):
        found = _apart(masks, many)
        if found is not None:
            return found
    return known


def _unspared(masks):
    """The masks without those in whose place another one may always be taken, as it has bits in common
    with no others than they have."""
    masks = least_masks(masks)
    near = []
    for mask in masks:
        near.append(sum([1 << k for k in range(len(masks)) if masks[k] & mask > 0]))
    left = (1 << len(masks)) - 1
    changed = True
    while changed:
        changed = False
        for k in range(len(masks)):
            if (left >> k) & 1 == 1:
                spared = _spared_by(near, left, k)
                changed = changed or spared > 0
                left = left & ~spared
    return [masks[k] for k in range(len(masks)) if (left >> k) & 1 == 1]


def _spared_by(near, left, k):
    """The places, as bits, of the masks in whose place the one at k may be taken."""
    others = near[k] & left
    spared = 0
    for bit in bits_of(others ^ (1 << k)):
        if others & ~near[bit.bit_length() - 1] == 0:
            spared = spared | bit
    return spared


def _apart(masks, many):
    """So many of the masks, or more, without a common bit; None if there are not so many."""
    while True:
        masks = _unspared(masks)
        if len(lots_of_masks(masks)) != 1:
            found = most_apart(masks)
            return found if len(found) >= many else None
        if many < 2:
            return masks[:1]
        if len(masks) == 1 or many_bits(_some_hitting(masks)) < many or _hitting(masks, many - 1) is not None:
            return None
        # The mask with most others near is taken, or left out.
        near = [len([one for one in masks if one & mask > 0]) for mask in masks]
        chosen = masks[near.index(max(near))]
        found = _apart([mask for mask in masks if mask & chosen == 0], many - 1)
        if found is not None:
            return found + [chosen]
        masks = [mask for mask in masks if mask != chosen]
