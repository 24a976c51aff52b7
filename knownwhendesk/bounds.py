"""The ranges of the numbers, by the letters of the calls."""

# The ticks n and t are not here: theirs depends on the centre, and has a refusal of its own.
RANGES = {
    "c": (1, 3),
    "d": (1, 3),
    "k": (1, 20),
    "m": (0, 999999),
    "a": (0, 999999),
    "b": (1, 1000000),
    "v": (0, 1000000000),
    "i": (0, 1000000000),
    "j": (1, 1000000000),
    "clock": (0, 1000000000),
}


def within(letter, number):
    return RANGES[letter][0] <= number <= RANGES[letter][1]


def in_range(numbers):
    for letter in numbers:
        if letter in RANGES and not within(letter, numbers[letter]):
            return False
    return "b" not in numbers or numbers["a"] < numbers["b"]
