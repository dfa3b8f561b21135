"""Tables packed to blocks, and whether a paper shows that a pack tells what the tables tell."""

from bitfloor.kinds import is_listed, is_place
from bitfloor.packs import Pack


def kept_table(tables, place):
    """The pair of leaves and bits that a keep's block has, told by the keep's place."""
    if place[0] == "table":
        return tables.tables[place[1]]
    return ((place,), 2)


def table_numbers(places):
    """The tables among the places."""
    return [number for word, number in places if word == "table"]


def wanted_tables(tables):
    """The tables, rising, that are outs or that some block has as a source."""
    waiting = table_numbers(tables.outs)
    for first, place in tables.keeps:
        waiting.extend(table_numbers(kept_table(tables, place)[0]))
    wanted = {}
    while len(waiting) > 0:
        number = waiting.pop()
        if number not in wanted:
            wanted[number] = True
            waiting.extend(table_numbers(tables.tables[number][0]))
    return sorted(wanted)


def sources_for(places, numbers):
    """The list of sources that have what the places have, by the numbers of the places' blocks."""
    return [place if place[0] == "in" else ("block", numbers[place]) for place in places]


def packed(tables):
    """The pair of a pack that tells what the tables tell and the list of what each block stands for."""
    paper = [("keep", number) for number in range(len(tables.keeps))]
    paper.extend([("table", number) for number in wanted_tables(tables)])
    numbers = dict([(place, number) for number, place in enumerate(paper)])
    blocks = []
    for word, number in paper:
        if word == "keep":
            keep = tables.keeps[number]
            table = kept_table(tables, keep[1])
            blocks.append((sources_for(table[0], numbers), table[1], 1, keep[0]))
        else:
            table = tables.tables[number]
            blocks.append((sources_for(table[0], numbers), table[1], 0, 0))
    return (Pack(tables.ins, blocks, sources_for(tables.outs, numbers)), paper)


def places_for(sources, paper):
    """The tuple of the places for which the sources stand."""
    return tuple([source if source[0] == "in" else paper[source[1]] for source in sources])


def stands_for_all(tables, paper):
    """Whether these are keeps and tables, none of them twice, and every keep is there."""
    counts = {"keep": len(tables.keeps), "table": len(tables.tables)}
    if not all([is_place(place, counts) for place in paper]) or len(set(paper)) != len(paper):
        return False
    return all([("keep", number) in paper for number in range(len(tables.keeps))])


def block_holds(tables, block, place, paper):
    """Whether a block has the leaves and bits of what it stands for, and is kept where that is a keep."""
    leaves = places_for(block[0], paper)
    if place[0] == "table":
        return (leaves, block[1]) == tables.tables[place[1]] and block[2] == 0
    keep = tables.keeps[place[1]]
    return (leaves, block[1]) == kept_table(tables, keep[1]) and block[2:] == (1, keep[0])


def pack_holds(tables, pack, paper):
    """True where the paper, a keep or a table for each block, shows that the pack tells what the tables tell."""
    if not is_listed(paper) or len(paper) != len(pack.blocks) or not all([is_listed(thing) for thing in paper]):
        return False
    stands = [tuple(thing) for thing in paper]
    if not stands_for_all(tables, stands):
        return False
    if pack.ins != tables.ins or places_for(pack.outs, stands) != tables.outs:
        return False
    return all([block_holds(tables, block, place, stands) for block, place in zip(pack.blocks, stands)])
