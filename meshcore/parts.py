"""Connected parts: each member has a label, and equal labels tell the same part."""


def joined(labels, i, j):
    """The labels after the parts of two members have become one."""
    gone = labels[i]
    return [labels[j] if one == gone else one for one in labels]


def labels_of(many, pairs):
    """The labels of so many members that are joined by pairs."""
    labels = list(range(many))
    for i, j in pairs:
        labels = joined(labels, i, j)
    return labels


def part_number(many, pairs):
    """How many connected parts so many members have that are joined by pairs."""
    return len(set(labels_of(many, pairs)))
