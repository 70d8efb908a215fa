"""What can be asked of a cloth that a pattern tells or a bed knits."""


# A loop is pulled through by one other at most, as it hangs nowhere from then on.
def holders(cloth):
    found = [None for loop in cloth]
    for number, loop in enumerate(cloth):
        for held in loop[2]:
            found[held] = number
    return found


def spent(cloth, yarn):
    return len([loop for loop in cloth if loop[0] == yarn])
