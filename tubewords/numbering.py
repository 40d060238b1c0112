"""Numbers of rooms, ties and cells when one of them is left out or put back."""


def number_without(number, gone):
    """The number that another member of a row has when the one with the number gone is left out."""
    if number > gone:
        return number - 1
    return number


def number_with(number, put):
    """The number that a member of a row has when one more is put into it at the number put."""
    if number >= put:
        return number + 1
    return number
