"""How a giver spoils every piece if it sings whole blocks of any length before the answers to them are known."""

from lookvoice.masks import mask_of, places_in
from lookvoice.places import first_voice


def ending_moves(masks, behaviours):
    """The move ("end", voice) with the first voice along which no closed run leads, for each mask that has one."""
    found = {}
    for mask in {ends: True for rows in behaviours.rows for ends in rows}:
        voice = first_voice(
            masks.given,
            mask,
            lambda ends, note: masks.after(ends, note),
            lambda ends: ends & masks.closed == 0,
        )
        if voice is not None:
            found[mask] = ("end", tuple(voice))
    return found


def traps(behaviours, numbers, moves):
    """For each of these behaviours the mask of the places that it leads to spoiled masks.

    The dict has with each such mask the number of the first behaviour that has it.
    """
    found = {}
    for number in numbers:
        trap = mask_of([place for place, ends in enumerate(behaviours.rows[number]) if ends in moves])
        found.setdefault(trap, number)
    return found


def trapping_moves(caught, wanted):
    """For each wanted mask that lies in a trap the move ("block", number), with the first behaviour that has one."""
    found = {}
    for mask in wanted:
        numbers = [caught[trap] for trap in caught if mask & trap == mask]
        if len(numbers) > 0:
            found[mask] = ("block", numbers[0])
    return found


def spoiling_moves(endings, behaviours, numbers):
    """The moves of the giver at all masks that it spoils with blocks that have the behaviours of these numbers.

    A mask is spoiled if the giver wins whichever of its places the last answer to a block has. A "block" move leads
    each place of the mask to a spoiled mask that stands before this one in the dict.
    """
    wanted = list({ends: True for number in numbers for ends in behaviours.rows[number]})
    fresh = {mask: endings[mask] for mask in wanted if mask in endings}
    moves = {}
    while len(fresh) > 0:
        moves.update(fresh)
        wanted = [mask for mask in wanted if mask not in moves]
        fresh = trapping_moves(traps(behaviours, numbers, moves), wanted)
    return moves


def first_block(behaviours, numbers, moves):
    """The behaviour among these with which the giver best begins: one that spoils the start, or None."""
    firsts = {}
    for number in numbers:
        firsts.setdefault(behaviours.rows[number][0], number)
    # The masks that stand first in the dict are spoiled with the fewest blocks.
    found = [firsts[mask] for mask in moves if mask in firsts]
    return found[0] if len(found) > 0 else None


def coming_positions(behaviours, moves, first):
    """The positions that can come up from place 0 and the first behaviour, each before those to which it leads.

    A position is a place and the number of a lasting behaviour.
    """
    coming = {mask: {} for mask in moves}
    coming[behaviours.rows[first][0]][(0, first)] = True
    order = list(moves)[::-1]
    for mask in order:
        word, what = moves[mask]
        if word == "block" and len(coming[mask]) > 0:
            for place in places_in(mask):
                coming[behaviours.rows[what][place]][(place, what)] = True
    return [position for mask in order for position in coming[mask]]
