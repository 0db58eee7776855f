"""What may stand at the cells, kept as bits: sign s by the bit of 2 to the power of s - 1."""

from cluemaker.floors import many_cells


def bit_of(sign):
    bit = 1
    for step in range(sign - 1):
        bit = bit * 2
    return bit


def full_mask(floor):
    return bit_of(floor[2] + 1) - 1


def full(floor):
    return [full_mask(floor)] * many_cells(floor)


def stands(mask, sign):
    # a number beyond the mask's bits is no sign in it, and is not shifted by, however great it is
    return 1 <= sign and sign <= mask.bit_length() and (mask >> (sign - 1)) % 2 == 1


def without(mask, sign):
    return mask - bit_of(sign) if stands(mask, sign) else mask


def has_only(mask, sign):
    return without(mask, sign) == 0


def signs_in(mask):
    return [sign for sign in range(1, mask.bit_length() + 1) if stands(mask, sign)]


def struck(masks, cell, sign):
    return [without(mask, sign) if place == cell else mask for place, mask in enumerate(masks)]


def clashes(masks):
    return 0 in masks


def is_settled(masks):
    return all([len(signs_in(mask)) == 1 for mask in masks])


def ways(masks):
    product = 1
    for mask in masks:
        product = product * len(signs_in(mask))
    return product


def sign_by(mask):
    signs = signs_in(mask)
    return signs[0] if len(signs) == 1 else 0


def filling_by(masks):
    return [sign_by(mask) for mask in masks]


def masks_by(floor, filling):
    return [full_mask(floor) if sign == 0 else bit_of(sign) for sign in filling]
