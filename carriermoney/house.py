"""What a house keeps: carriers, rates, charges, tickets with their parts, claims, and the month."""

MOST_CARRIERS = 10
MOST_TICKETS = 40
MOST_CLAIMS = 200
MOST_DEPTH = 3
MOST_MONTHS_BACK = 2

NOT_FLOWN = 0
FLOWN_BY_ISSUER = 1
FLOWN_NOT_BILLED = 2
FLOWN_AND_BILLED = 3
REFUNDED = 4


class Carrier:
    def __init__(self, currency):
        self.currency = currency
        self.suspended = False
        self.paid = 0
        self.got = 0


class Part:
    def __init__(self, carrier, share):
        self.carrier = carrier
        self.share = share
        self.kept = 0
        self.state = NOT_FLOWN
        self.claim = 0


class Ticket:
    def __init__(self, issuer, value, parts):
        self.issuer = issuer
        self.value = value
        self.parts = parts


# Claims name one another by id, and not as objects, since 0 is then answered as it stands where there is none.
class Claim:
    def __init__(self, to, of, amount, month, depth, parent):
        self.to = to
        self.of = of
        self.amount = amount
        self.month = month
        self.depth = depth
        self.parent = parent
        self.rejected_by = 0
        self.settled = False


class House:
    def __init__(self):
        self.carriers = {}
        self.rates = {}
        self.charges = {}
        # A dict keeps the order in which keys came: the order in which the tickets were issued.
        self.tickets = {}
        self.claims = []
        self.month = 0

    def has_carriers(self, numbers):
        return all([number in self.carriers for number in numbers])

    def part_or_none(self, t, i):
        if t not in self.tickets or i >= len(self.tickets[t].parts):
            return None
        return self.tickets[t].parts[i]

    def claim_or_none(self, number):
        if number < 1 or number > len(self.claims):
            return None
        return self.claims[number - 1]

    def add_claim(self, claim):
        self.claims.append(claim)
        return len(self.claims)
