"""Cases: what is known of a paper, and what follows from it."""

# A literal is ("has", place): a leaf or a message is set; ("some", places): at least one of the places is set; ("is",
# place, value): a leaf is set and has the value; ("same", place, place): two leaves are both unset, or both set with
# the same value. Two messages may be told to be the same: both unset, or both set. They are not asked for it.


def same_literal(first, second):
    """Return the literal that tells whether two different places are the same, in one form for both sequences."""
    if first < second:
        return ("same", first, second)
    return ("same", second, first)


class Case:
    """What is known of a paper over a ground, or of two.

    Once one place of each of the wants is known to be set, there is such a paper in which all places are unset that
    are not known to be set: texts and numbers always have values left, and of flags leasts.py finds out.
    """

    def __init__(self, ground):
        self.ground = ground
        # Of each place whether it is set, None where this is not known.
        self.known = [None] * len(ground.words)
        # How many parts of the first paper are known to be set.
        self.many = 0
        # Of a leaf: its value; the values that it has not if it is set; the leaves that it is the same as, itself
        # among them; those that it is not the same as.
        self.worths = {}
        self.barred = {}
        self.alike = {}
        self.unlike = {}
        # Tuples of places, at least one of each is set.
        self.wants = []
        # The literals that were asked on the way to this case, and what the answer was.
        self.asked = ()

    def twin(self):
        """Return a case of its own with the same knowledge."""
        other = Case(self.ground)
        other.known = list(self.known)
        other.many = self.many
        other.worths = {at: self.worths[at] for at in self.worths}
        other.barred = {at: self.barred[at] for at in self.barred}
        other.alike = {at: self.alike[at] for at in self.alike}
        other.unlike = {at: self.unlike[at] for at in self.unlike}
        other.wants = list(self.wants)
        other.asked = self.asked
        return other

    def without_wants(self):
        """Return a case of its own in which nothing is wanted that is not known."""
        other = self.twin()
        other.wants = []
        return other

    def told(self, literal, answer):
        """Return the case in which a literal has an answer, too; None if it cannot have it."""
        return self.told_all([(literal, answer)])

    def told_all(self, pairs):
        """Return the case in which several literals have their answers; None if they cannot have them."""
        other = self.twin()
        for literal, answer in pairs:
            facts = other._facts_of(literal, answer)
            if facts is None or not other._learn(facts):
                return None
        return other

    def forks(self, literal):
        """Return the pairs of an answer that a literal may have here and the case in which it has it."""
        answer = self.judge(literal)
        if answer is not None:
            return [(answer, self)]
        no = self.told(literal, False)
        yes = self.told(literal, True)
        if no is None or yes is None:
            return [(answer, case) for answer, case in ((False, no), (True, yes)) if case is not None]
        no.asked = self.asked + ((literal, False),)
        yes.asked = self.asked + ((literal, True),)
        return [(False, no), (True, yes)]

    def judge(self, literal):
        """Return the answer that a literal surely has; None if this is not known."""
        if literal[0] == "has":
            return self.known[literal[1]]
        if literal[0] == "some":
            return self._judge_some(literal[1])
        if literal[0] == "is":
            return self._judge_value(literal[1], literal[2])
        return self._judge_same(literal[1], literal[2])

    def _judge_some(self, places):
        """Return whether one of some places is set, None if this is not known."""
        told = [self.known[at] for at in places]
        if None not in told or True in told:
            return True in told
        wanted = [want for want in self.wants if all([at in places for at in want])]
        return True if wanted else None

    def _judge_value(self, at, value):
        """Return whether a leaf has a value, None if this is not known."""
        if at in self.worths:
            return self.worths[at] == value
        if self.known[at] is False or value in self.barred.get(at, ()):
            return False
        return None

    def _judge_same(self, first, second):
        """Return whether two leaves are the same, None if this is not known."""
        if second in self.alike.get(first, ()):
            return True
        if second in self.unlike.get(first, ()):
            return False
        if first in self.worths and second in self.worths:
            return self.worths[first] == self.worths[second]
        for one, other in ((first, second), (second, first)):
            if one in self.worths and self.worths[one] in self.barred.get(other, ()):
                return False
        told = (self.known[first], self.known[second])
        if told == (False, False):
            return True
        return False if told in ((True, False), (False, True)) else None

    def _facts_of(self, literal, answer):
        """Keep what a literal's answer links, and return the facts that follow; None if there is a contradiction."""
        word, at = literal[0], literal[1]
        if word == "has":
            return [("set", at, answer)]
        if word == "is":
            return [("is" if answer else "bar", at, literal[2])]
        if word == "same":
            return self._link(at, literal[2]) if answer else self._part(at, literal[2])
        if not answer:
            return [("set", place, False) for place in at]
        self.wants.append(at)
        ways = self.ground.ways
        return [("set", above, True) for above in ways[at[0]] if all([above in ways[place] for place in at])]

    def _link(self, first, second):
        """Keep that two leaves are the same, and return the facts that follow."""
        some = self.alike.get(first, (first,))
        others = self.alike.get(second, (second,))
        if second in some:
            return []
        every = some + others
        facts = []
        for at in every:
            if [place for place in self.unlike.get(at, ()) if place in every]:
                return None
            self.alike[at] = every
            facts.extend([("bar", place, value) for place in every for value in self.barred.get(at, ())])
            if self.known[at] is not None:
                facts.extend([("set", place, self.known[at]) for place in every])
            if at in self.worths:
                facts.extend([("is", place, self.worths[at]) for place in every])
        return facts

    def _part(self, first, second):
        """Keep that two leaves are not the same, and return the facts that follow."""
        if second in self.alike.get(first, ()):
            return None
        facts = []
        for one, other in ((first, second), (second, first)):
            self.unlike[one] = self.unlike.get(one, ()) + (other,)
            if one in self.worths:
                facts.append(("bar", other, self.worths[one]))
        # If both were unset, they would be the same.
        self.wants.append((first, second))
        return facts

    def _learn(self, facts):
        """Keep facts and what follows from them; tell whether there is no contradiction."""
        todo = list(facts)
        while True:
            while todo:
                word, at, what = todo.pop()
                more = self._learn_one(word, at, what)
                if more is None:
                    return False
                todo.extend(more)
            todo = self._last_wanted()
            if todo is None:
                return False
            if not todo:
                return True

    def _learn_one(self, word, at, what):
        """Keep a fact, and return the facts that follow; None if there is a contradiction."""
        if word == "set":
            return self._learn_set(at, what)
        if word == "is":
            return self._learn_value(at, what)
        return self._learn_barred(at, what)

    def _learn_set(self, at, answer):
        """Keep whether a place is set, and return the facts that follow; None if there is a contradiction."""
        if self.known[at] is not None:
            return [] if self.known[at] == answer else None
        self.known[at] = answer
        facts = [("set", place, answer) for place in self.alike.get(at, ())]
        if not answer:
            return facts + [("set", place, False) for place in self.ground.inner[at]]
        facts.extend([("set", place, False) for place in self.ground.beside[at]])
        if self.ground.above[at] >= 0:
            facts.append(("set", self.ground.above[at], True))
        if self.ground.is_part_of_first(at):
            self.many += 1
        return facts + self._facts_of_flag(at)

    def _learn_value(self, at, value):
        """Keep the value of a leaf, and return the facts that follow; None if there is a contradiction."""
        if at in self.worths:
            return [] if self.worths[at] == value else None
        if value in self.barred.get(at, ()):
            return None
        self.worths[at] = value
        facts = [("is", place, value) for place in self.alike.get(at, ())]
        facts.extend([("bar", place, value) for place in self.unlike.get(at, ())])
        return facts + [("set", at, True)]

    def _learn_barred(self, at, value):
        """Keep a value that a leaf has not, and return the facts that follow; None if there is a contradiction."""
        if at in self.worths:
            return None if self.worths[at] == value else []
        if value in self.barred.get(at, ()):
            return []
        self.barred[at] = self.barred.get(at, ()) + (value,)
        return [("bar", place, value) for place in self.alike.get(at, ())] + self._facts_of_flag(at)

    def _facts_of_flag(self, at):
        """Return the facts that follow for a flag from the values that it has not."""
        barred = self.barred.get(at, ())
        if self.ground.words[at] != "flag" or not barred:
            return []
        if len(barred) == 2:
            return [("set", at, False)]
        return [("is", at, not barred[0])] if self.known[at] else []

    def _last_wanted(self):
        """Return the facts that the last places follow of which one is wanted; None if there is a contradiction."""
        facts = []
        wants = []
        for want in self.wants:
            places = tuple([at for at in want if self.known[at] is not False])
            if not places:
                return None
            if len(places) == 1:
                facts.append(("set", places[0], True))
            elif not [at for at in places if self.known[at]]:
                wants.append(places)
        self.wants = wants
        return [fact for fact in facts if self.known[fact[1]] is None]
