"""Completed rules of a piece, each with a line that tells how it comes about ([28]).

The rules are completed as Knuth and Bendix do it: where two rules can be used at one turn, what they lead to is brought
down, and becomes a rule if it is not the same. Signs do not matter for which turns are met there: if a turn and
the opposite one turn out to be carried into each other, this is noted apart, and worked out when the rules are done.
"""

from heapq import heappop, heappush
from math import lcm

from tubewords.turnorder import order_for, primes_of
from tubewords.webs import piece_of


def entries_back(entries):
    """The entries of a plan that go along other ones backwards, in a list."""
    back = []
    for entry in entries[::-1]:
        if entry[0] == "cross":
            back.append(("cross", entry[1], -entry[2]))
        else:
            back.append(("line", entry[1], -entry[2], entry[3]))
    return back


class Completion:
    """The completed rules of a piece.

    A rule with the number n is (v, m, w, l) with m above 0; line number n carries (v, m) into (w, l). Lines are pairs
    of the room in which they begin and a list of entries of a plan.
    """

    def __init__(self, web, room):
        self.web = web
        self.primes = primes_of(web, room)
        self.rules = {}
        self.rules_at = {other: [] for other in piece_of(web, room)}
        self.lines = []
        self.waiting = []
        self.pending = {}
        self.both_signs = []
        self.signless = {other: {} for other in self.rules_at}
        self.complete(self.ties_to_take())
        self.bring_ends_down()
        self.work_out_signs()

    def ties_to_take(self):
        """What the ties say, the turns that come last of all behind the others, in a list."""
        taken = []
        for number, (v, w, p, q) in enumerate(self.web[1]):
            if v in self.rules_at:
                taken.append(((v, p), (w, q), [("cross", number, 1)]))
        return sorted(taken, key=lambda row: max(self.key_of(row[0]), self.key_of(row[1])))

    def key_of(self, turn):
        """What is lesser for a turn of the rest 1 that comes before, whatever its sign is."""
        return order_for(self.primes, (turn[0], abs(turn[1])))

    def complete(self, rows):
        """Takes rows of two turns that are carried into each other by entries, and whatever comes of this."""
        rows = list(rows)
        while rows or self.waiting:
            if rows:
                first, second, entries = rows.pop(0)
                rows.extend(self.take(first, second, entries))
            else:
                rows.extend(self.next_pair())

    def take(self, first, second, entries):
        """Makes two turns, the first one carried into the second one, a rule; returns rows of rules that are gone."""
        one, before = self.brought(first)
        other, behind = self.brought(second)
        if one == other:
            return []
        path = entries_back(before) + entries + behind
        if self.key_of(one) == self.key_of(other):
            self.both_signs.append((one, path))
            return []
        if self.key_of(one) < self.key_of(other):
            one, other, path = other, one, entries_back(path)
        if one[1] < 0:
            one, other = (one[0], -one[1]), (other[0], -other[1])
        return self.add_rule(one, other, path)

    def add_line(self, begin, entries):
        """Adds a line and returns its number."""
        self.lines.append((begin, entries))
        return len(self.lines) - 1

    def add_rule(self, one, other, path):
        """Adds a rule; returns the rows of those rules for the room that are not needed behind it."""
        room, turns = one
        gone = [number for number in self.rules_at[room] if self.rules[number][1] % turns == 0]
        rows = [self.without_rule(number) for number in gone]
        number = self.add_line(room, path)
        self.rules[number] = one + other
        for earlier in self.rules_at[room]:
            both = lcm(turns, self.rules[earlier][1])
            self.pending[(earlier, number)] = True
            heappush(self.waiting, (self.key_of((room, both)), earlier, number, both))
        self.rules_at[room].append(number)
        return rows

    def without_rule(self, number):
        """Takes a rule away and returns its row."""
        v, m, w, l = self.rules.pop(number)
        self.rules_at[v].remove(number)
        return ((v, m), (w, l), [("line", number, 1, 1)])

    def next_pair(self):
        """The rows that the next pair of rules of one room gives, none or one."""
        _, first, second, both = heappop(self.waiting)
        del self.pending[(first, second)]
        if first not in self.rules or second not in self.rules or self.is_covered(first, second, both):
            return []
        led = self.led_by(first, both)
        others = self.led_by(second, both)
        return [(led, others, [("line", first, -1, 1), ("line", second, 1, 1)])]

    def led_by(self, number, turns):
        """The turn to which a rule leads turns of its room."""
        _, m, w, l = self.rules[number]
        return (w, turns // m * l)

    def is_covered(self, first, second, both):
        """Whether a third rule can be used there whose pairs with both rules have been looked at."""
        for third in self.rules_at[self.rules[first][0]]:
            if third not in (first, second) and both % self.rules[third][1] == 0:
                pairs = [(min(third, number), max(third, number)) for number in (first, second)]
                if pairs[0] not in self.pending and pairs[1] not in self.pending:
                    return True
        return False

    def brought(self, turn):
        """The turn to which the rules bring down a turn, and the entries that carry it there."""
        entries = []
        number = self.rule_for(turn)
        while number is not None:
            turn = self.led_by(number, turn[1])
            entries.append(("line", number, 1, 1))
            number = self.rule_for(turn)
        return (turn, entries)

    def rule_for(self, turn):
        """The number of the first rule that can be used at a turn, None if there is none."""
        for number in self.rules_at[turn[0]]:
            if turn[1] % self.rules[number][1] == 0:
                return number
        return None

    def bring_ends_down(self):
        """Puts rules in the place of those whose ends other ones bring down further."""
        for number in list(self.rules):
            v, m, w, l = self.rules[number]
            end, entries = self.brought((w, l))
            if entries:
                self.without_rule(number)
                again = self.add_line(v, [("line", number, 1, 1)] + entries)
                self.rules[again] = (v, m) + end
                self.rules_at[v].append(again)

    def work_out_signs(self):
        """Finds for which least amounts in each room a turn and its opposite are carried into each other."""
        rows = list(self.both_signs)
        while rows:
            turn, entries = rows.pop(0)
            (room, turns), down = self.brought(turn)
            if self.signless_line(room, turns) is None:
                number = self.add_line(room, entries_back(down) + entries + down)
                kept = self.signless[room]
                self.signless[room] = {amount: kept[amount] for amount in kept if amount % turns != 0}
                self.signless[room][abs(turns)] = number
                for rule in self.rules_at[room]:
                    rows.append(((room, lcm(turns, self.rules[rule][1])), [("line", number, 1, 1)]))

    def signless_line(self, room, turns):
        """The number of a line that carries these turns, and all multiples, into their opposite; None if none does."""
        for amount, number in self.signless[room].items():
            if turns % amount == 0:
                return number
        return None

    def least(self, turn):
        """The least turn of a turn that is not 0, and the entries that carry the turn into it."""
        (room, turns), entries = self.brought(turn)
        number = self.signless_line(room, turns)
        if turns < 0 and number is not None:
            return ((room, -turns), entries + [("line", number, 1, 1)])
        return ((room, turns), entries)

    def told(self):
        """The told rules, in their order, in a list."""
        rules = []
        for v, m, w, l in self.rules.values():
            if l < 0 and self.signless_line(w, l) is not None:
                l = -l
            rules.append((v, m, w, l))
        for room, kept in self.signless.items():
            rules.extend([(room, -amount, room, amount) for amount in kept])
        return sorted(rules, key=lambda rule: (rule[0], abs(rule[1])))
