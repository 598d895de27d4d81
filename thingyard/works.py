"""Recipes worked from answers."""

from thingyard.parts import counted, first_word, rest_words, sorted_words, turned_about
from thingyard.signs import MOST_SIGNS, is_name, words_of

MOST_STEPS = 500


def made_of(kind, text):
    if kind == "back":
        return turned_about(text)
    if kind == "first":
        return first_word(text)
    if kind == "rest":
        return rest_words(text)
    if kind == "count":
        return counted(text)
    return sorted_words(text)


# Works a tree by a list of what is still to be done, the next one last: a recursion
# would hang on how high the tree is. What has been worked lies as texts on another list.
class Working:
    def __init__(self, tree, stem, answers):
        self.stem = stem
        self.answers = answers
        self.used = {}
        self.steps = 0
        self.texts = []
        self.todo = [("part", tree, None)]
        self.ended = None

    def run(self):
        while self.ended is None and len(self.todo) > 0:
            task = self.todo.pop()
            if task[0] == "part":
                self.begin(task[1], task[2])
            elif task[0] == "join":
                self.end_join(task[1])
            elif task[0] == "if":
                self.choose(task[1], task[2])
            elif task[0] == "each":
                self.begin_each(task[1])
            elif task[0] == "round":
                self.go_round(task[1], task[2], task[3])
            else:
                self.end_single(task[0])
        if self.ended is None:
            return ("text", self.texts[0])
        return self.ended

    def fail(self, words):
        self.ended = ("fails", words)

    def come_to(self, text):
        if len(text) > MOST_SIGNS:
            self.fail("too long")
        else:
            self.texts.append(text)

    def come_to_answer(self, name):
        if name in self.answers:
            self.used[name] = True
            self.come_to(self.answers[name])
        else:
            self.ended = ("asks", name)

    def begin(self, part, it):
        self.steps += 1
        if self.steps > MOST_STEPS:
            self.fail("too much")
        elif part[0] in ("text", "line", "it", "stem"):
            self.come_to(self.bare_text(part, it))
        elif part[0] == "thing":
            self.come_to_answer(part[1])
        elif part[0] == "kin":
            self.come_to_answer(part[1] + "." + self.stem)
        else:
            self.begin_inner(part, it)

    def bare_text(self, part, it):
        if part[0] == "text":
            return part[1]
        if part[0] == "line":
            return "\n"
        if part[0] == "it":
            return it
        return self.stem

    # What is to be done behind the parts within goes onto the list ahead of them.
    def begin_inner(self, part, it):
        kind = part[0]
        if kind == "join":
            self.todo.append(("join", len(part) - 1))
            self.put_parts(part[1:], it)
        elif kind == "if":
            self.todo.append(("if", part, it))
            self.put_parts(part[1:3], it)
        elif kind == "each":
            self.todo.append(("each", part[2]))
            self.put_parts(part[1:2], it)
        else:
            self.todo.append((kind,))
            self.put_parts(part[1:], it)

    def put_parts(self, parts, it):
        for part in reversed(parts):
            self.todo.append(("part", part, it))

    def end_join(self, number):
        texts = [self.texts.pop() for part in range(number)]
        self.come_to("".join(reversed(texts)))

    def choose(self, part, it):
        second = self.texts.pop()
        first = self.texts.pop()
        self.todo.append(("part", part[3] if first == second else part[4], it))

    def begin_each(self, part):
        words = words_of(self.texts.pop())
        self.texts.append("")
        self.go_on_round(part, words, 0)

    # Of two texts the upper one is that of the last word, the lower one what the each has so far.
    def go_round(self, part, words, number):
        text = self.texts.pop()
        self.come_to(self.texts.pop() + text)
        self.go_on_round(part, words, number)

    def go_on_round(self, part, words, number):
        if number < len(words):
            self.todo.append(("round", part, words, number + 1))
            self.todo.append(("part", part, words[number]))

    def end_single(self, kind):
        text = self.texts.pop()
        if kind == "fail":
            self.fail(text)
        elif kind != "of":
            self.come_to(made_of(kind, text))
        elif is_name(text):
            self.come_to_answer(text)
        else:
            self.fail("no name")


def worked(tree, stem, answers):
    working = Working(tree, stem, answers)
    came = working.run()
    return (came, list(working.used))
