"""Runs: the houses of a net, tick by tick, and the letters on its streets."""

from roundnews.errors import NoHouse, NoStreet
from roundnews.houses import House


class Run:
    """A run of a net.

    A letter under way is kept as a tuple (tick, number, sender, hearer, letter, since, street): the tick at which it
    will be there, its number, two houses, the letter as it set out, the tick at which it did, and the street's number.
    """

    def __init__(self, make, net, fates):
        houses, streets = net
        self.make = make
        self.streets = list(streets)
        self.fates = dict(fates)
        self.homes = [House(house, make, 0) for house in range(houses)]
        self.between = {}
        self.is_up = [True] * len(streets)
        self.posts = []
        self.many_sent = 0
        self.clock = 0
        self.happened = []
        for street, (one, other, _) in enumerate(streets):
            self.between[(one, other)] = street
            self.between[(other, one)] = street
            self._join_ends(street)

    def step(self, events):
        """Do one tick; tell the list of what happened in it."""
        self._refuse_wrong(events)
        happened = self._hear_letters()
        for event in events:
            happened.extend(self._do(event))
        self._send_lists()
        happened.extend(self._speak())
        happened.extend(self._pass_tick())
        self.happened.extend([(self.clock, what) for what in happened])
        self.clock += 1
        return happened

    def now(self):
        """Tell the next tick."""
        return self.clock

    def log(self):
        """Tell the list of pairs (tick, what happened) so far."""
        return list(self.happened)

    def held(self, house):
        """Tell the list of all news that this house has."""
        return self.homes[house].held()

    def number(self, house):
        """Tell this house's number, or None."""
        return self.homes[house].number()

    def up(self):
        """Tell the list of whether each street is up."""
        return list(self.is_up)

    def sent(self):
        """Tell how many letters have set out."""
        return self.many_sent

    def under_way(self):
        """Tell the list of tuples (tick, letter's number, from, to, letter), by ticks, then by numbers."""
        # What is there at one tick stays as it set out, so by rising numbers.
        return [post[:5] for post in sorted(self.posts, key=lambda post: post[0])]

    def _refuse_wrong(self, events):
        """Refuse the first event of a house or a street that there isn't."""
        for event in events:
            word, number = event[0], event[1]
            if word in ("down", "up"):
                if not 0 <= number < len(self.streets):
                    raise NoStreet(f"there is no street {number}")
            elif not 0 <= number < len(self.homes):
                raise NoHouse(f"there is no house {number}")

    def _hear_letters(self):
        """Have the letters that are there heard; tell what happened."""
        here = [post for post in self.posts if post[0] == self.clock]
        self.posts = [post for post in self.posts if post[0] != self.clock]
        happened = []
        # They are kept as they set out, so by rising numbers.
        for _, _, sender, house, letter, since, _ in here:
            some, mailing = self.homes[house].hear(sender, older_letter(letter, self.clock - since))
            happened.extend([(what[0], house) + what[1:] for what in some])
            self._set_out(house, mailing)
        return happened

    def _do(self, event):
        """Do one event; tell the list of what happened."""
        word, number = event[0], event[1]
        if word == "tell":
            self.homes[number].wish(event[2])
        elif word == "take":
            self.homes[number].wish(None)
        elif word == "down" and self.is_up[number]:
            self._put_down(number)
        elif word == "up" and not self.is_up[number]:
            self._put_up(number)
        elif word == "fall":
            self._begin_anew(number)
            return [("fell", number)]
        return []

    def _put_down(self, street):
        """Put a street down that's up; what is on it is lost."""
        self.is_up[street] = False
        one, other, _ = self.streets[street]
        self.homes[one].part(other)
        self.homes[other].part(one)
        self.posts = [post for post in self.posts if post[6] != street]

    def _put_up(self, street):
        """Put a street up that's down; its houses list to one another what they have."""
        self.is_up[street] = True
        self._join_ends(street)
        one, other, _ = self.streets[street]
        self._set_out(one, [sending for sending in self.homes[one].lists() if sending[0] == other])
        self._set_out(other, [sending for sending in self.homes[other].lists() if sending[0] == one])

    def _join_ends(self, street):
        """Make the two houses of a street neighbours."""
        one, other, _ = self.streets[street]
        self.homes[one].join(other)
        self.homes[other].join(one)

    def _begin_anew(self, house):
        """Have a house forget all but its neighbours, and hush for life ticks."""
        neighbours = self.homes[house].neighbours()
        self.homes[house] = House(house, self.make, self.make[1])
        for neighbour in neighbours:
            self.homes[house].join(neighbour)
        self._set_out(house, self.homes[house].lists())

    def _send_lists(self):
        """Have all houses list what they have, where beat divides the tick."""
        if self.clock % self.make[4] == 0:
            for house, home in enumerate(self.homes):
                self._set_out(house, home.lists())

    def _speak(self):
        """Have each house speak; tell what happened."""
        happened = []
        for house, home in enumerate(self.homes):
            # A house may speak without neighbours, so what it mails doesn't tell whether it spoke.
            wishes = home.has_wish()
            self._set_out(house, home.speak())
            if wishes and not home.has_wish():
                _, number, _, words = home.own()
                happened.append(("told", house, number, words))
        return happened

    def _pass_tick(self):
        """Let the tick pass for all houses; tell what happened."""
        happened = []
        for house, home in enumerate(self.homes):
            happened.extend([("ended", house, teller) for teller in home.tick()])
        return happened

    def _set_out(self, house, mailing):
        """Have the letters that a house mails set out."""
        for neighbour, letter in mailing:
            street = self.between[(house, neighbour)]
            for ticks in self._waits(self.many_sent, self.streets[street][2]):
                self.posts.append((self.clock + ticks, self.many_sent, house, neighbour, letter, self.clock, street))
            self.many_sent += 1

    def _waits(self, number, wait):
        """Tell how many ticks behind its setting out a letter is there: none, one or two numbers."""
        fate = self.fates.get(number)
        if fate is None:
            return [wait]
        if fate[0] == "lose":
            return []
        late = wait + fate[1]
        return [late] if fate[0] == "late" else [wait, late]


def older_letter(letter, many):
    """Tell the letter with the ages in it so many ticks more."""
    word, what = letter
    if word == "news":
        teller, number, age, words = what
        return (word, (teller, number, age + many, words))
    if word == "list":
        return (word, tuple([(teller, number, total, age + many) for teller, number, total, age in what]))
    return letter
