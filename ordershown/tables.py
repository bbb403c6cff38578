"""The search for an order, and the tables that show that there is none."""

from ordershown.moves import Moves


def find(some_history, model):
    """Return ("order", the told order), or ("table", the told table) if there is no order."""
    moves = Moves(some_history, model)
    seen = {}
    stack = [((), moves.first())]
    while len(stack) > 0:
        row, position = stack.pop()
        if position in seen:
            continue
        if moves.is_whole(position):
            return "order", row
        seen[position] = True
        # What is put last is taken first, and the told order prefers the least number.
        for number, following in reversed(moves.steps_from(position)):
            stack.append(((*row, number), following))
    return "table", tuple(sorted(seen))


def fits(some_history, model):
    """Return whether the history has an order by the model."""
    return find(some_history, model)[0] == "order"


def told_table(some_history, model):
    """Return the tuple of all positions to which one gets from the first one, ascending."""
    moves = Moves(some_history, model)
    seen = {moves.first(): True}
    waiting = [moves.first()]
    while len(waiting) > 0:
        position = waiting.pop()
        for _, following in moves.steps_from(position):
            if following not in seen:
                seen[following] = True
                waiting.append(following)
    return tuple(sorted(seen))


def _keeps_closed(moves, inside, position):
    """Return whether this is a position, is not whole, and leads to none that is not inside."""
    if not moves.is_position(position) or moves.is_whole(position):
        return False
    return all([following in inside for _, following in moves.steps_from(position)])


def is_closed(some_history, model, table):
    """Return whether the table is closed, and so shows that there is no order."""
    moves = Moves(some_history, model)
    inside = {position: True for position in table}
    if moves.first() not in inside:
        return False
    return all([_keeps_closed(moves, inside, position) for position in table])
