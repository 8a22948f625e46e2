"""The shortest row of pegs by which two hands are parted."""


def parted(one, hand, other, place):
    """The least of the shortest rows of pegs that part this hand of the one and this place of the other, or None."""
    if are_unlike(one, hand, other, place):
        return ()
    # Pairs wait in the order of their rows, so the first row that parts is the one to be told.
    rows = {(hand, place): ()}
    waiting = [(hand, place)]
    done = 0
    while done < len(waiting):
        pair = waiting[done]
        done += 1
        for peg in range(len(one[pair[0]][1])):
            row = rows[pair] + (peg,)
            here, here_peg = one[pair[0]][1][peg]
            there, there_peg = other[pair[1]][1][peg]
            if here_peg != there_peg or are_unlike(one, here, other, there):
                return row
            if (here, there) not in rows:
                rows[(here, there)] = row
                waiting.append((here, there))
    return None


def are_unlike(one, hand, other, place):
    """Whether these hands have unlike marks or unlike many pegs."""
    mark, pegs = one[hand]
    other_mark, other_pegs = other[place]
    return mark != other_mark or len(pegs) != len(other_pegs)
