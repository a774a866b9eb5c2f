"""Walks from one value to all others that steps lead to."""

from meshcore.errors import TooMany


def reached(start, steps, most=None):
    """All values that steps lead to from the start, ascending; steps tells where one value leads."""
    found = [start]
    seen = {start: True}
    done = 0
    while done < len(found):
        there = steps(found[done])
        done += 1
        for new in there:
            if new not in seen:
                seen[new] = True
                found.append(new)
        if most is not None and len(found) > most:
            raise TooMany(most)
    return tuple(sorted(found))
