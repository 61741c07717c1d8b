"""The desk: rules and plans kept by names, told and asked by lines."""

from wordrules.counts import counts
from wordrules.errors import NoBack, NoLine, NoName, NoNumber, NoTongue, NoWord, TooMany
from wordrules.hits import share_found
from wordrules.machines import first_row
from wordrules.making import machine_of
from wordrules.order import number_of, word_at
from wordrules.places import how_many, place, try_at
from wordrules.plans import MOST_STEPS
from wordrules.plantexts import read_step, show_plan
from wordrules.relations import compared, within
from wordrules.rules import MOST_SENTENCES, keeps
from wordrules.signs import MOST_SIGNS_OF_A_WORD, is_tongue, is_word, word_of
from wordrules.spans import span
from wordrules.texts import is_number_text, read_sentence, show_rule

LETTERS = "abcdefghijklmnopqrstuvwxyz"
MOST_LETTERS = 8
MOST_NAMES = 20

# What stands behind the first word of a line; more is one word or more, whatever they are.
FORMS = {
    "signs": ("new", "more"),
    "tell": ("name", "more"),
    "step": ("name", "more"),
    "back": ("name",),
    "drop": ("name",),
    "names": (),
    "rule": ("name",),
    "plan": ("name",),
    "keeps": ("name", "word"),
    "count": ("name", "number"),
    "at": ("name", "number"),
    "number": ("name", "word"),
    "first": ("name",),
    "span": ("name",),
    "alike": ("name", "name"),
    "within": ("name", "name"),
    "place": ("name", "word"),
    "try": ("name", "number"),
    "found": ("name", "number", "number"),
}


def words_of_line(line):
    if not isinstance(line, str):
        raise NoLine("no text")
    words = line.split(" ")
    if words[0] not in FORMS or not is_formed_line(FORMS[words[0]], words[1:]):
        raise NoLine("no line as listed")
    return words


def is_formed_line(form, told):
    if form[-1:] == ("more",):
        if len(told) < len(form):
            return False
    elif len(told) != len(form):
        return False
    return all([is_formed_word(kind, word) for kind, word in zip(form, told)])


def is_formed_word(kind, word):
    if kind == "new" or kind == "name":
        return is_name(word)
    return kind != "number" or is_number_text(word)


def is_name(word):
    return 1 <= len(word) <= MOST_LETTERS and all([sign in LETTERS for sign in word])


# A rule and a plan that are told bit by bit.
class Entry:
    def __init__(self, tongue):
        self.tongue = tongue
        self.sentences = []
        self.steps = []
        self.deeds = []

    def rule(self):
        return (self.tongue, tuple(self.sentences))

    def plan(self):
        return tuple(self.steps)

    def tell_sentence(self, text):
        sentence = read_sentence(self.tongue, text)
        if len(self.sentences) >= MOST_SENTENCES:
            raise TooMany("the rule has eight sentences")
        self.sentences.append(sentence)
        self.deeds.append("tell")

    def tell_step(self, text):
        step = read_step(self.tongue, text)
        if len(self.steps) >= MOST_STEPS:
            raise TooMany("the plan has three steps")
        self.steps.append(step)
        self.deeds.append("step")

    def take_back(self):
        if len(self.deeds) == 0:
            raise NoBack("nothing to take back")
        if self.deeds.pop() == "tell":
            self.sentences.pop()
        else:
            self.steps.pop()


def answer_tell(entry, told):
    entry.tell_sentence(" ".join(told))
    return "ok"


def answer_step(entry, told):
    entry.tell_step(" ".join(told))
    return "ok"


def answer_back(entry, told):
    entry.take_back()
    return "ok"


def answer_rule(entry, told):
    return show_rule(entry.rule())


def answer_plan(entry, told):
    return show_plan(entry.plan())


def answer_keeps(entry, told):
    if not is_word(entry.tongue, told[0]):
        raise NoWord("no word of the tongue")
    return "yes" if keeps(entry.rule(), told[0]) else "no"


def answer_count(entry, told):
    machine = machine_of(entry.rule())
    n = number_up_to(MOST_SIGNS_OF_A_WORD, told[0])
    return str(counts(machine, n)[n])


def number_up_to(most, text):
    number = int(text)
    if number > most:
        raise NoNumber("too great a number")
    return number


def answer_at(entry, told):
    return "word " + word_at(entry.tongue, machine_of(entry.rule()), int(told[0]))


def answer_number(entry, told):
    return str(number_of(entry.tongue, machine_of(entry.rule()), told[0]))


def answer_first(entry, told):
    row = first_row(machine_of(entry.rule()), 0)
    return "none" if row is None else "word " + word_of(entry.tongue, row)


def answer_span(entry, told):
    found = span(machine_of(entry.rule()))
    if found[0] != "last":
        return found[0]
    longest = found[1][0]
    return f"last {longest}"


def answer_place(entry, told):
    number = place(entry.plan(), told[0])
    return "none" if number is None else str(number)


def answer_try(entry, told):
    return "word " + try_at(entry.plan(), int(told[0]))


def answer_found(entry, told):
    machine = machine_of(entry.rule())
    n = number_up_to(how_many(entry.plan()), told[0])
    most = number_up_to(MOST_SIGNS_OF_A_WORD, told[1])
    return "/".join([str(number) for number in share_found(entry.tongue, entry.plan(), machine, n, most)])


def answer_alike(one, other):
    refuse_unlike_tongues(one, other)
    return shown_relation(one.tongue, compared(machine_of(one.rule()), machine_of(other.rule())))


def answer_within(one, other):
    refuse_unlike_tongues(one, other)
    return shown_relation(one.tongue, within(machine_of(one.rule()), machine_of(other.rule())))


def refuse_unlike_tongues(one, other):
    if one.tongue != other.tongue:
        raise NoTongue("tongues that are not the same")


def shown_relation(tongue, relation):
    head = relation[0]
    if head == "alike" or head == "within":
        return head
    return head + " " + word_of(tongue, relation[1])


ANSWERS_OF_ONE = {
    "tell": answer_tell,
    "step": answer_step,
    "back": answer_back,
    "rule": answer_rule,
    "plan": answer_plan,
    "keeps": answer_keeps,
    "count": answer_count,
    "at": answer_at,
    "number": answer_number,
    "first": answer_first,
    "span": answer_span,
    "place": answer_place,
    "try": answer_try,
    "found": answer_found,
}

ANSWERS_OF_TWO = {"alike": answer_alike, "within": answer_within}


class Desk:
    def __init__(self):
        self.entries = {}

    def say(self, line):
        words = words_of_line(line)
        self.refuse_strangers(FORMS[words[0]], words[1:])
        if words[0] == "names":
            return " ".join(sorted(self.entries))
        if words[0] == "signs":
            return self.begin(words[1], tuple(words[2:]))
        if words[0] == "drop":
            return self.drop(words[1])
        if words[0] in ANSWERS_OF_TWO:
            return ANSWERS_OF_TWO[words[0]](self.entries[words[1]], self.entries[words[2]])
        return ANSWERS_OF_ONE[words[0]](self.entries[words[1]], words[2:])

    def refuse_strangers(self, form, told):
        for kind, word in zip(form, told):
            if kind == "name" and word not in self.entries:
                raise NoName("a name that is not there")

    def begin(self, name, kinds):
        if not is_tongue(kinds):
            raise NoTongue("no tongue")
        if name not in self.entries and len(self.entries) >= MOST_NAMES:
            raise TooMany("twenty names are there")
        self.entries[name] = Entry(kinds)
        return "ok"

    def drop(self, name):
        self.entries.pop(name)
        return "ok"
