"""Repairing, pruning, grouping: lines that serve made out of other lines or out of groups."""

from linkorder.chains import uses
from linkorder.errors import DoesNotServe, InvalidLine
from linkorder.linking import is_plain_line
from linkorder.shortest import distances, is_last, last_first, start_of, word_moves


def moves_of_line(library, line):
    """Return the moves between the states of the words, if the line is one without groups."""
    if not is_plain_line(library, line):
        raise InvalidLine(line)
    return word_moves(library)


def left_with_item(moves, order, place, later):
    """Return for each state how many items are left if the archive at a place must follow, and then what is later."""
    table = {}
    for state in order:
        ways = [table[behind] for at, behind in enumerate(moves[state]) if at != place and behind != state]
        ways.append(later[moves[state][place]])
        table[state] = min(ways) + 1
    return table


def left_to_repair(moves, places):
    """Return, for each number of items of a line that must still follow, how many items are left at each state."""
    order = last_first(moves)
    rows = [distances(moves, order)]
    for place in reversed(places):
        rows.append(left_with_item(moves, order, place, rows[-1]))
    return rows


def first_nearer(moves, rows, state, places):
    """Return the place of the least archive that leaves one item less, and the places that must follow it."""
    for at, behind in enumerate(moves[state]):
        # It does no harm to take an item of the line for the first archive that is the same.
        rest = places[1:] if places[:1] == [at] else places
        if rows[len(rest)][behind] < rows[len(places)][state]:
            break
    return at, rest


def repaired(library, line):
    """Return the least of the shortest lines without groups that serve and of which the line is a part."""
    moves = moves_of_line(library, line)
    names = library.names()
    places = [names.index(archive) for archive in line]
    rows = left_to_repair(moves, places)
    state = start_of(moves)
    longer = []
    while rows[len(places)][state] > 0:
        at, places = first_nearer(moves, rows, state, places)
        state = moves[state][at]
        longer.append(names[at])
    return tuple(longer)


def left_of_parts(moves, places):
    """Return, for each number of items at the end of a line, how many of them are needed at each state."""
    never = len(places) + 1
    rows = [{state: 0 if is_last(moves, state) else never for state in moves}]
    for place in reversed(places):
        later = rows[-1]
        rows.append({state: min(later[state], later[moves[state][place]] + 1) for state in moves})
    return rows


def pruned(library, line):
    """Return the least of the shortest parts of the line that serve."""
    moves = moves_of_line(library, line)
    names = library.names()
    places = [names.index(archive) for archive in line]
    rows = left_of_parts(moves, places)
    state = start_of(moves)
    left = rows[-1][state]
    if left > len(line):
        raise DoesNotServe(line)
    part = []
    follows = 0
    while len(part) < left:
        wanted = left - len(part) - 1
        ways = [(places[at], at) for at in range(follows, len(line))
                if rows[len(line) - at - 1][moves[state][places[at]]] == wanted]
        # Of equal archives the first one leaves the most to choose from.
        place, at = min(ways)
        state = moves[state][place]
        part.append(names[place])
        follows = at + 1
    return tuple(part)


def archives_led_to(pairs, name):
    """Return the names of the archives to which one leads, directly or through others."""
    found = []
    waiting = [name]
    while waiting:
        here = waiting.pop()
        fresh = [other for one, other in pairs if one == here and other not in found]
        found.extend(fresh)
        waiting.extend(fresh)
    return found


def grouped_archives(leads):
    """Return the tuples of archives that lead to each other, in ascending order of their first names."""
    groups = []
    for name in leads:
        group = tuple([other for other in leads if other == name or other in leads[name] and name in leads[other]])
        if group not in groups:
            groups.append(group)
    return groups


def may_come_next(leads, waiting, group):
    """Tell whether no other group that waits leads to this one."""
    return not any([group[0] in leads[other[0]] for other in waiting if other != group])


def grouped_line(library):
    """Return a line that serves and in which each archive that has members stands once."""
    pairs = [(library.archive_of(name), library.archive_of(other)) for name, other in uses(library)]
    leads = {name: archives_led_to(pairs, name) for name, members in library.archives if members}
    waiting = grouped_archives(leads)
    line = []
    while waiting:
        ready = [group for group in waiting if may_come_next(leads, waiting, group)]
        following = ready[0]
        line.append(following if len(following) > 1 else following[0])
        waiting = [group for group in waiting if group != following]
    return tuple(line)
