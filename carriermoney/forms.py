"""The form of each call: its name, the ranges of its plain arguments and of its row."""

FORMS = {
    0: ("carrier", ((0, 675), (0, 7))),
    1: ("rate", ((1, 7), (1, 1000000), (1, 1000000))),
    2: ("charge", ((0, 675), (0, 675), (0, 10000))),
    3: ("issue", ((1, 999999999), (0, 675), (0, 1000000000))),
    4: ("cut", ((0, 1000000000),)),
    5: ("fly", ((1, 999999999), (0, 7))),
    6: ("refund", ((1, 999999999), (0, 7))),
    7: ("bill", ((0, 675), (0, 675))),
    8: ("reject", ((1, 999), (1, 10000000000000000))),
    9: ("effect", ((1, 999),)),
    10: ("owed", ((0, 675), (0, 675))),
    11: ("nets", ()),
    12: ("plan", ()),
    13: ("suspend", ((0, 675), (0, 1))),
    14: ("clear", ()),
    15: ("account", ((0, 675),)),
    16: ("books", ((0, 675),)),
    17: ("part", ((1, 999999999), (0, 7))),
    18: ("claim", ((1, 999),)),
    19: ("unbilled", ((0, 675), (0, 675))),
    20: ("month", ()),
    21: ("check", ()),
}

# Of a row: the fewest and the most groups, then the ranges of the numbers in each group.
ROWS = {
    "issue": ((1, 8), ((0, 675), (0, 1000000), (0, 1000000000))),
    "cut": ((1, 8), ((0, 1000000), (0, 1000000000))),
    "check": ((0, 30), ((0, 675), (0, 675), (0, 1000000000000000000))),
}


def name_of(place):
    return FORMS[place][0]


def plain_count(place):
    return len(FORMS[place][1])


def has_row(place):
    return name_of(place) in ROWS


def within(number, bounds):
    return bounds[0] <= number and number <= bounds[1]


def plain_fits(place, plain):
    ranges = FORMS[place][1]
    return all([within(number, bounds) for number, bounds in zip(plain, ranges)])


def row_fits(place, row):
    form = ROWS[name_of(place)]
    ranges = form[1]
    width = len(ranges)
    if len(row) % width != 0 or not within(len(row) // width, form[0]):
        return False
    return all([within(number, ranges[at % width]) for at, number in enumerate(row)])


def call_fits(place, plain, row):
    if not plain_fits(place, plain):
        return False
    return not has_row(place) or row_fits(place, row)
