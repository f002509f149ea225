"""Numbers as bytes: 256 values for each place, the greatest place first."""


# The least number of bytes with which as many unlike rows can be made. A total of 0 asks for none,
# so that no bytes at all are the only ones of its width.
def width_of(total):
    width = 0
    rows = 1
    while rows < total:
        rows *= 256
        width += 1
    return width


# The number must fit into so many bytes.
def packed_number(number, width):
    backwards = []
    while len(backwards) < width:
        backwards.append(number % 256)
        number = number // 256
    return list(reversed(backwards))


def unpacked_number(packed):
    number = 0
    for byte in packed:
        number = number * 256 + byte
    return number
