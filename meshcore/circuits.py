"""Circuits: dependencies of one point more than a simplex has, and the two parts they make."""

from meshcore.configs import check_config, corner_count
from meshcore.errors import BadIndexes
from meshcore.exact import is_ascending, reduced
from meshcore.linear import null_row


def is_circuit(config, value):
    return is_ascending(value, len(config)) and len(value) == corner_count(config) + 1


def dependency_of(config, circuit):
    """What dependency tells."""
    spots = [config[k] for k in circuit]
    rows = [[spot[at] for spot in spots] for at in range(corner_count(config))]
    # the products with the numbers of the points are 0; those with the last ones are
    # the weights of the points themselves, and have the sum 0
    found = reduced([one * spot[-1] for one, spot in zip(null_row(rows, len(circuit)), spots)])
    if found[0] < 0:
        found = [-one for one in found]
    return tuple(found)


def parts_of(circuit, row):
    """The indexes of a circuit with a positive and with a negative integer in its dependency."""
    first = tuple([k for k, one in zip(circuit, row) if one > 0])
    second = tuple([k for k, one in zip(circuit, row) if one < 0])
    return (first, second)


def common_place(config, circuit, row):
    """The point that the hulls of both parts have in common."""
    common = 1
    for k in circuit:
        common = common * config[k][-1]
    found = [0] * corner_count(config)
    for k, one in zip(circuit, row):
        if one > 0:
            factor = one * (common // config[k][-1])
            found = [total + factor * number for total, number in zip(found, config[k])]
    return tuple(reduced(found))


def check_circuit(config, circuit):
    check_config(config)
    if not is_circuit(config, circuit):
        raise BadIndexes()


def dependency(config, circuit):
    """The integers of a circuit whose sum, and whose sum with the points, is 0."""
    check_circuit(config, circuit)
    return dependency_of(config, circuit)


def radon_parts(config, circuit):
    """Both parts of a circuit, and the only point that their hulls have in common."""
    check_circuit(config, circuit)
    row = dependency_of(config, circuit)
    first, second = parts_of(circuit, row)
    return (first, second, common_place(config, circuit, row))
