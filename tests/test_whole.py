"""What the document promises over the whole program: its names, and what one part says of what another tells."""
import copy
import importlib
import inspect
import random
import unittest

from tests.spoken import is_so, numbers_of, some_sentences, some_word, words_up_to
from tests.tried import row_of_tries, some_plan
from wordrules.counts import counts, holds_table, share, table
from wordrules.desk import Desk
from wordrules.errors import WordError
from wordrules.exchanges import exchanged_rule, exchanged_word
from wordrules.hits import hits
from wordrules.keepers import Keeper
from wordrules.layers import holds_shortest, shortest
from wordrules.least import least
from wordrules.machines import is_machine, lets
from wordrules.making import machine_of
from wordrules.order import number_of, word_at
from wordrules.places import how_many, place, try_at
from wordrules.plantexts import read_plan, show_plan
from wordrules.relations import compared, holds_alike, holds_within, within
from wordrules.rules import is_rule, keeps, rule_of, rule_weight
from wordrules.spans import holds_span, span
from wordrules.texts import read_rule, show_rule

INTERFACE = {
    "signs": "is_tongue(thing) is_word(tongue,thing) signs_of(tongue) kind_of(tongue,sign)"
             " comes_first(tongue,one,other) row_of(tongue,word) word_of(tongue,row)",
    "sentences": "is_sentence(tongue,thing) holds(tongue,sentence,word) weight(tongue,sentence)",
    "rules": "rule_of(tongue,sentences) is_rule(thing) keeps(rule,word) rule_weight(rule)",
    "machines": "is_machine(many,thing) gone(machine,stand,row) lets(machine,row) met(machine) alive(machine)",
    "least": "least(machine)",
    "joins": "both(one,other) either(one,other) opposite(machine)",
    "making": "sentence_machine(tongue,sentence) machine_of(rule)",
    "counts": "table(machine,most) holds_table(machine,thing) counts(machine,most) share(machine,n)",
    "spans": "span(machine) holds_span(machine,thing)",
    "order": "word_at(tongue,machine,number) number_of(tongue,machine,word)",
    "layers": "shortest(machine) holds_shortest(machine,thing)",
    "relations": "compared(one,other) within(one,other) holds_alike(one,other,pairs) holds_within(one,other,pairs)",
    "exchanges": "exchanged_word(tongue,other,word) exchanged_rule(rule,other)",
    "lists": "is_way(tongue,thing) changed_word(way,word) changed(words,ways)",
    "plans": "is_step(tongue,thing) is_plan(tongue,thing) made(step) tries(plan)",
    "places": "how_many(plan) place(plan,word) try_at(plan,number)",
    "hits": "hits(tongue,plan,machine,n,most) share_found(tongue,plan,machine,n,most)",
    "keepers": "Keeper(rule,look_back,places)",
    "texts": "show_rule(rule) read_rule(text)",
    "plantexts": "show_plan(plan) read_plan(tongue,text)",
    "desk": "Desk()",
}
KEEPER = "take(word) harder(sentence) undo() word() taken() rule() due() why_not(thing) free(n)"
TONGUES = (("a",), ("ab",), ("ba", "0"), ("ab", "01"))


def some_rules(seed, times, most=160):
    """A tongue and a rule each that isn't too heavy."""
    draw = random.Random(seed)
    found = []
    while len(found) < times:
        tongue = draw.choice(TONGUES)
        rule = rule_of(tongue, draw.sample(some_sentences(draw.randrange(999), 8, tongue, 3), draw.randint(0, 3)))
        if rule_weight(rule) <= most:
            found.append(rule)
    return found


def kept_words(rule, most):
    return [word for word in words_up_to("".join(rule[0]), most)
            if all(is_so(rule[0], sentence, word) for sentence in rule[1])]


class InterfaceTest(unittest.TestCase):
    def arguments(self, thing):
        return [name for name in inspect.signature(thing).parameters if name != "self"]

    def told(self, line):
        return [(one.partition("(")[0], [name for name in one.partition("(")[2][:-1].split(",") if name])
                for one in line.split(" ")]

    def test_names_and_arguments(self):
        for module, line in INTERFACE.items():
            for name, arguments in self.told(line):
                thing = getattr(importlib.import_module("wordrules." + module), name)
                self.assertEqual(self.arguments(thing), arguments, name)
        for name, arguments in self.told(KEEPER):
            self.assertEqual(self.arguments(getattr(Keeper, name)), arguments, name)
        self.assertEqual(self.arguments(Desk.say), ["line"])


class PromiseTest(unittest.TestCase):
    def test_the_machine_lets_just_the_words_that_keep_the_rule(self):
        for rule in some_rules(221, 60):
            machine = machine_of(rule)
            self.assertIs(is_machine(len("".join(rule[0])), machine), True)
            self.assertEqual(least(machine), machine)
            for word in words_up_to("".join(rule[0]), 4):
                kept = all(is_so(rule[0], sentence, word) for sentence in rule[1])
                self.assertIs(keeps(rule, word), kept)
                self.assertIs(lets(machine, numbers_of(rule[0], word)), kept)

    def test_what_is_told_is_let_by(self):
        rules = some_rules(222, 60)
        for rule, other in zip(rules, rules[1:]):
            machine = machine_of(rule)
            self.assertIs(holds_table(machine, table(machine, 6)), True)
            self.assertIs(holds_span(machine, span(machine)), True)
            self.assertIs(holds_shortest(machine, shortest(machine)), True)
            self.assertIs(holds_alike(machine, machine, compared(machine, machine)[1]), True)
            self.assertIs(holds_within(machine, machine, within(machine, machine)[1]), True)
            if rule[0] == other[0]:
                self.parted(rule, other, compared(machine, machine_of(other)), within(machine, machine_of(other)))

    def parted(self, rule, other, told, held):
        ours, theirs = kept_words(rule, 4), kept_words(other, 4)
        signs = "".join(rule[0])
        if told[0] == "unlike" and len(told[1]) <= 4:
            word = "".join(signs[number] for number in told[1])
            self.assertEqual(word, [one for one in words_up_to(signs, 4) if (one in ours) != (one in theirs)][0])
        else:
            self.assertEqual(ours, theirs)
        if held[0] == "out" and len(held[1]) <= 4:
            word = "".join(signs[number] for number in held[1])
            self.assertEqual(word, [one for one in ours if one not in theirs][0])
        else:
            self.assertEqual([one for one in ours if one not in theirs], [])

    def test_words_and_numbers(self):
        for rule in some_rules(223, 60):
            machine = machine_of(rule)
            words = kept_words(rule, 4)
            for number, word in list(enumerate(words))[::5]:
                self.assertEqual(word_at(rule[0], machine, number), word)
                self.assertEqual(number_of(rule[0], machine, word), number)
            lengths = [sum(len(word) == length for word in words) for length in range(5)]
            self.assertEqual(counts(machine, 4), lengths)
            top, bottom = share(machine, 4)
            self.assertEqual(top * len("".join(rule[0])) ** 4, bottom * lengths[4])

    def test_a_sentence_more_never_lets_a_word_more(self):
        for rule in some_rules(224, 80, 600):
            for many in range(len(rule[1])):
                fewer = (rule[0], rule[1][:many] + rule[1][many + 1:])
                self.assertTrue(set(kept_words(rule, 3)) <= set(kept_words(fewer, 3)))
                for more, less in zip(counts(machine_of(fewer), 9), counts(machine_of(rule), 9)):
                    self.assertLessEqual(less, more)

    def test_signs_exchanged(self):
        draw = random.Random(225)
        for rule in some_rules(226, 60):
            other = tuple("".join(draw.sample(kind, len(kind))) for kind in rule[0])
            moved = exchanged_rule(rule, other)
            self.assertIs(is_rule(moved), True)
            self.assertEqual(counts(machine_of(moved), 8), counts(machine_of(rule), 8))
            self.assertEqual(sorted(kept_words(moved, 3)),
                             sorted(exchanged_word(rule[0], other, word) for word in kept_words(rule, 3)))

    def test_texts(self):
        draw = random.Random(227)
        for rule in some_rules(228, 80, 10 ** 9):
            plan = some_plan(draw, "".join(rule[0]))
            self.assertEqual(read_rule(show_rule(rule)), rule)
            self.assertEqual(read_plan(rule[0], show_plan(plan)), plan)

    def test_each_word_of_a_row_of_tries_has_one_place(self):
        draw = random.Random(229)
        for rule in some_rules(230, 60):
            plan = some_plan(draw, "".join(rule[0]))
            row = row_of_tries(plan)
            self.assertEqual([place(plan, word) for word in row], list(range(len(row))))
            self.assertEqual([try_at(plan, number) for number in range(how_many(plan))], row)
            n = draw.randint(0, len(row))
            self.assertEqual(hits(rule[0], plan, machine_of(rule), n, 60),
                             sum(all(is_so(rule[0], one, word) for one in rule[1]) for word in row[:n]))

    def test_a_word_kept_is_never_elder_nor_near(self):
        draw = random.Random(231)
        for rule in some_rules(232, 60, 600):
            look_back, places = draw.randint(0, 9), draw.randint(0, 3)
            keeper = Keeper(rule, look_back, places)
            for _ in range(25):
                before = keeper.taken()
                word = some_word(draw, "".join(rule[0]), 0, 5)
                could = keeper.why_not(word) is None
                free = keeper.free(len(word))
                try:
                    keeper.take(word)
                except WordError:
                    self.assertIs(could, False)
                    self.assertEqual(keeper.taken(), before)
                    continue
                self.assertIs(could, True)
                self.assertGreater(free, 0)
                self.assertEqual(keeper.taken(), before + [word])
                self.assertIs(keeps(rule, word), True)
                self.assertNotIn(word, before[max(0, len(before) - look_back):])
                if before and len(before[-1]) == len(word):
                    self.assertGreaterEqual(sum(one != other for one, other in zip(before[-1], word)), places)

    def test_the_desk_says_what_the_parts_say(self):
        draw = random.Random(233)
        for rule in some_rules(234, 40):
            plan = some_plan(draw, "".join(rule[0]))
            desk = Desk()
            desk.say("signs a " + " ".join(rule[0]))
            for line in show_rule(rule).split("\n")[1:]:
                desk.say("tell a " + line)
            for line in show_plan(plan).split("\n")[1:]:
                desk.say("step a " + line)
            self.assertEqual(desk.say("rule a"), show_rule(rule))
            self.assertEqual(desk.say("plan a"), show_plan(plan))
            machine = machine_of(rule)
            for n in (0, 1, 7, 60):
                self.assertEqual(desk.say(f"count a {n}"), str(counts(machine, n)[n]))
            self.assertEqual(desk.say("span a").split(" ")[0], span(machine)[0])
            first = shortest(machine)
            signs = "".join(rule[0])
            self.assertEqual(desk.say("first a"), "none" if first[0] == "none"
                             else "word " + "".join(signs[number] for number in first[1]))

    def test_what_is_told_may_be_changed_and_is_told_again_the_same(self):
        rule = (("ab", "01"), (("least", 0, 1), ("apart",)))
        machine = machine_of(rule)
        before = copy.deepcopy(machine)
        machine[0].append(True)
        machine[1][0][0] = None
        self.assertEqual(machine_of(rule), before)


if __name__ == "__main__":
    unittest.main()
