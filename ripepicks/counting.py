"""Sequences by their numbers, as they rise."""


def factorial(many):
    """In how many orders so many can stand."""
    orders = 1
    for each in range(1, many + 1):
        orders *= each
    return orders


def sequence_at(number, nexts, many_from):
    """The sequence of this number: nexts tells what can stand next behind some, rising, many_from how many begin so."""
    begun = []
    ready = nexts(begun)
    while ready:
        chosen, number = chosen_at(number, begun, ready, many_from)
        begun.append(chosen)
        ready = nexts(begun)
    return begun


def chosen_at(number, begun, ready, many_from):
    """The pair of the next one in the sequence of this number, and its number among those that begin so."""
    for each in ready[:-1]:
        many = many_from([*begun, each])
        if number < many:
            return each, number
        number -= many
    return ready[-1], number


def number_in(sequence, nexts, many_from):
    """The number of the sequence, nexts and many_from as above: how many are less by one of its places."""
    number = 0
    for at, each in enumerate(sequence):
        begun = sequence[:at]
        number += sum([many_from([*begun, less]) for less in nexts(begun) if less < each])
    return number
