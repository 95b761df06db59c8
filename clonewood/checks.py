"""Stuff, its row of numbers, and its check."""

LOW_BITS = 4294967295
TURN = 5
REST = 27


def row_of(stuff):
    if isinstance(stuff, int):
        return [stuff]
    if isinstance(stuff, str):
        return [len(stuff)] + [ord(sign) for sign in stuff]
    row = [len(stuff)]
    for part in stuff:
        row.extend(row_of(part))
    return row


def check_of(stuff):
    check = 0
    for number in row_of(stuff):
        turned = (check << TURN) | (check >> REST)
        # Cut last, so that even a number of more than 32 bits leaves a check of 32.
        check = (turned ^ number) & LOW_BITS
    return check
