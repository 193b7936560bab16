"""Plans: is_plan, planned and need (points 3, 20 and 21)."""

import copy
import random
import unittest

from lentgate.errors import NoForm, NoPlan
from lentgate.forms import is_form
from lentgate.looker import looked
from lentgate.plans import is_plan, need, planned
from test_model import Model, some_form
from things import NO_TUPLES, SIXTY, STRANGE, anything, form_of, part_twice, with_part, without_part

NO_PLANS = [thing for thing in STRANGE + NO_TUPLES if thing not in ([], [("wait", 5)])]


def note(place=7, far=80, house=3, door=40, text=""):
    return ("out", "note", house, door, place, far, "say", text)


def line(word="open", place=7, far=80, house=3, door=40):
    return ("out", "line", house, door, place, far, word, "")


def back(k, word="say", text=""):
    return ("back", k, word, text)


def come(number, place=7, far=80, kind="note", word="say", text=""):
    return ("come", kind, place, far, number, word, text)


class IsPlan(unittest.TestCase):
    def check(self, expected, *plans):
        for plan in plans:
            before = copy.deepcopy(plan)
            self.assertIs(is_plan(plan), expected, plan)
            self.assertEqual(plan, before)

    def test_steps_at_their_bounds(self):
        longest = "".join([chr(at) for at in range(32, 127) if at != 37])[:40]
        self.check(
            True, [], [("wait", 0)], [("wait", 1000000)],
            [("out", "note", 0, 1, 1, 1, "say", "")], [("out", "line", 99, 9999, 1000000, 9999, "break", longest)],
            [note(), back(0)], [note(), back(0, text=longest)], [("wait", 5), note(), ("wait", 5), back(1)],
            [note(), note(), back(0), back(1), back(0)], [line("say"), back(0, "open")])
        self.check(False, [("wait", -1)], [("wait", 1000001)], [note(), back(0, text=longest + "a")],
                   [note(), back(0, text="a%b")], [note(), back(0, text="a\nb")])

    def test_an_out_goes_to_a_place_from_1_on(self):
        self.check(False, [note(place=0)], [line(place=0)], [note(), note(place=0)], [note(place=1000001)])
        self.check(True, [note(place=1)], [line(place=1000000)])

    def test_other_deeds_are_no_steps(self):
        self.check(False, [come(100)], [note(), come(100)], [("lost", 5, "note", 100, 7, 80)],
                   [("rule", "note", 9, None, 3, 40)], [("unrule", 0)], [note(), ("lost", 5, "note", 100, 7, 80)])

    def test_a_back_is_of_an_earlier_out(self):
        self.check(False, [back(0)], [note(), back(1)], [note(), back(2), note()], [back(1), note()],
                   [("wait", 5), back(0)], [note(), back(0), back(1)], [note(), back(-1)], [note(), back(-2)],
                   [note(), ("wait", 0), back(2)], [note(), ("wait", 0), back(3)], [note(), ("wait", 0), back(1)])
        self.check(True, [note(), ("wait", 0), back(0)], [("wait", 0), note(), back(1)])

    def test_k_is_a_whole_number(self):
        plan = [note(), note(), back(1)]
        self.check(True, plan)
        for k in STRANGE + [True, False, None, "0", "1", 10 ** 59, (0,), [0], 2, 3]:
            self.check(False, plan[:2] + [back(k)])

    def test_a_back_says_what_the_kind_of_its_letter_may(self):
        for word in ("open", "say", "close", "break"):
            self.check(True, [line(), back(0, word)], [line("close"), back(0, word)])
            self.check(word == "say", [note(), back(0, word)])
            # Its own letter's kind counts, not that of the last one.
            self.check(word == "say", [note(), line(), back(0, word)])
            self.check(True, [line(), note(), back(0, word)])
        for word in STRANGE:
            self.check(False, [line(), back(0, word)], [note(), back(0, word)])

    def test_texts_of_backs(self):
        for text in ("a" * 41, "a" * 400, "%", "\n", None, True, 5, [], ("",), [""]):
            self.check(False, [note(), back(0, text=text)], [line(), back(0, text=text)])
        self.check(True, [note(), back(0, text="a" * 40)], [note(), back(0, text=" ~:")])

    def test_parts_left_out_or_told_twice(self):
        for step in (note(), line(), ("wait", 5), back(0), back(0, "say", "x")):
            for at in range(len(step)):
                self.check(False, [note(), without_part(step, at)], [note(), part_twice(step, at)])
                self.check(False, [note(), with_part(step, at, [step[at]])], [note(), with_part(step, at, True)])
            self.check(False, [note(), step + ("",)], [note(), step + (None,)])

    def test_two_hundred_steps(self):
        for step in (note(), ("wait", 0)):
            self.check(True, [step] * 199, [step] * 200, [note()] + [back(0)] * 199)
            self.check(False, [step] * 201, [note()] + [back(0)] * 200, [step] * 400)

    def test_lists_and_tuples(self):
        self.check(False, (), (note(),), ([note()],), note(), [list(note())], [[note()]], [(note(),)],
                   [note(), list(back(0))], [note(), ("wait", [5])])

    def test_anything(self):
        self.check(False, *NO_PLANS)
        self.check(False, *[[thing] for thing in STRANGE + NO_TUPLES])
        self.check(False, *[[note(), thing] for thing in STRANGE + NO_TUPLES])

    def test_anything_by_chance(self):
        source, found = random.Random(1), 0
        for _ in range(6000):
            thing = anything(source)
            self.assertIn(is_plan(thing), (True, False))
            step = source.choice([note(), line(), ("wait", 5), back(0), back(1, "close")])
            at = source.randrange(len(step))
            plan = [note(), line(), with_part(step, at, thing)]
            found += is_plan(plan)
            self.assertIs(is_plan(plan), self.plainly(plan), plan)
        self.assertGreater(found, 50)

    def plainly(self, plan):
        """Point 20 for a plan whose first two steps are a note and a line, of three steps with three bounds."""
        step = plan[2]
        numbers = [part for part in step if isinstance(part, int) and not isinstance(part, bool)]
        texts = [part for part in step if isinstance(part, str)]
        good = all(0x20 <= ord(sign) <= 0x7e and sign != "%" for text in texts for sign in text)
        good = good and len(numbers) + len(texts) == len(step) and all(len(text) <= 40 for text in texts)
        if step[0] == "wait":
            return good and len(numbers) == 1 and len(step) == 2 and 0 <= numbers[0] <= 1000000
        if step[0] == "back":
            words = {0: ("say",), 1: ("open", "say", "close", "break")}
            return good and len(numbers) == 1 and numbers == [step[1]] and step[2] in words.get(step[1], ())
        if step[0] != "out" or not good or len(numbers) != 4 or list(step[2:6]) != numbers:
            return False
        house, door, place, far = numbers
        if not (0 <= house <= 99 and 1 <= door <= 9999 and 1 <= place <= 1000000 and 1 <= far <= 9999):
            return False
        return step[6] in {"note": ("say",), "line": ("open", "say", "close", "break")}.get(step[1], ())


class Planned(unittest.TestCase):
    def check(self, plan, rows, **parts):
        """The deeds that were done and their answers."""
        self.assertTrue(is_plan(plan))
        self.assertEqual(planned(form_of(**parts), plan), rows)

    def test_deeds_that_are_done(self):
        self.check([], [])
        self.check([note(), ("wait", 3), line()], [
            (note(), ("led", 100)), (("wait", 3), None), (line(), ("led", 101))])

    def test_a_back_in_a_living_talk(self):
        self.check([note(), back(0, text="well")], [(note(), ("led", 100)), (come(100, text="well"), ("in", 3, 40))])
        self.check([note(), ("wait", 9), back(0)], [
            (note(), ("led", 100)), (("wait", 9), None), (come(100), ("in", 3, 40))])
        self.check([line(), back(0, "open"), line("say")], [
            (line(), ("led", 100)), (come(100, kind="line", word="open"), ("in", 3, 40)), (line("say"), ("led", 100))])

    def test_k_counts_all_steps(self):
        self.check([("wait", 0), note(), ("wait", 0), note(far=81), back(3), back(1)], [
            (("wait", 0), None), (note(), ("led", 100)), (("wait", 0), None), (note(far=81), ("led", 101)),
            (come(101, far=81), ("in", 3, 40)), (come(100), ("in", 3, 40))])

    def test_by_the_number_of_the_letter(self):
        self.check([note(door=102), note(place=9, door=101), back(1), back(0)], [
            (note(door=102), ("led", 102)), (note(place=9, door=101), ("led", 101)),
            (come(101, place=9), ("in", 3, 101)), (come(102), ("in", 3, 102))], pick="keep")

    def test_a_back_behind_the_end(self):
        self.check([note(), ("wait", 10), back(0)], [(note(), ("led", 100)), (("wait", 10), None)])
        # The letter that came back makes the talk longer, by renew alone.
        long = [note(), ("wait", 9), back(0), ("wait", 9), back(0)]
        rows = [(note(), ("led", 100)), (("wait", 9), None), (come(100), ("in", 3, 40)), (("wait", 9), None)]
        self.check(long, rows)
        self.check(long, rows + [(come(100), ("in", 3, 40))], renew=True)

    def test_a_back_behind_a_break(self):
        rows = [(line(), ("led", 100)), (line("break"), ("led", 100))]
        self.check([line(), line("break"), back(0, "open"), back(1, "open")], rows)
        self.check([line(), back(0, "break"), back(0, "open")], [
            (line(), ("led", 100)), (come(100, kind="line", word="break"), ("in", 3, 40))])

    def test_a_talk_that_began_anew_is_another_one(self):
        plan = [line(), line("break"), line(), back(0, "open"), back(1, "open"), back(2, "open")]
        self.check(plan, [
            (line(), ("led", 100)), (line("break"), ("led", 100)), (line(), ("led", 100)),
            (come(100, kind="line", word="open"), ("in", 3, 40))], high=100, times=(10, 5, 20, 0))
        # By lending "door" it keeps its number, and it is another talk all the same.
        plan = [line(), line(far=81), line("break"), line(), back(0, "open"), back(3, "open")]
        self.check(plan, [
            (line(), ("led", 100)), (line(far=81), ("led", 100)), (line("break"), ("led", 100)),
            (line(), ("led", 100)), (come(100, kind="line", word="open"), ("in", 3, 40))], lending="door")

    def test_notes_that_began_anew(self):
        plan = [note(), ("wait", 10), note(), back(0), back(2)]
        self.check(plan, [
            (note(), ("led", 100)), (("wait", 10), None), (note(), ("led", 100)), (come(100), ("in", 3, 40))],
            times=(10, 5, 20, 0), high=100)

    def test_all_letters_of_one_talk(self):
        self.check([note(), note(text="b"), back(0), back(1), ("wait", 9), note(), ("wait", 5), back(0)], [
            (note(), ("led", 100)), (note(text="b"), ("led", 100)), (come(100), ("in", 3, 40)),
            (come(100), ("in", 3, 40)), (("wait", 9), None), (note(), ("led", 100)), (("wait", 5), None),
            (come(100), ("in", 3, 40))])

    def test_where_the_letter_was_kept(self):
        self.check([line("say"), back(0, "open")], [(line("say"), ("kept", "astray"))])
        self.check([note(), note(far=81), back(1), back(0)], [
            (note(), ("led", 100)), (note(far=81), ("kept", "most")), (come(100), ("in", 3, 40))], most=1)
        self.check([note(), note(far=81), back(1)], [
            (note(), ("led", 100)), (note(far=81), ("kept", "full"))], high=100)
        # A talk lives, but this letter of it was kept.
        self.check([line(), line("say"), back(1, "open"), back(0, "open")], [
            (line(), ("led", 100)), (line("say"), ("kept", "astray")),
            (come(100, kind="line", word="open"), ("in", 3, 40))])

    def test_a_back_that_is_itself_kept_is_a_deed(self):
        self.check([line(), back(0, "say")], [
            (line(), ("led", 100)), (come(100, kind="line", word="say"), ("kept", "astray"))])
        self.check([line(), back(0, "open"), back(0, "close"), back(0, "say")], [
            (line(), ("led", 100)), (come(100, kind="line", word="open"), ("in", 3, 40)),
            (come(100, kind="line", word="close"), ("in", 3, 40)),
            (come(100, kind="line", word="say"), ("kept", "astray"))])

    def test_two_hundred_steps(self):
        plan = [note()] + [back(0)] * 199
        self.assertEqual(planned(form_of(), plan), [(note(), ("led", 100))] + [(come(100), ("in", 3, 40))] * 199)


class Refusals(unittest.TestCase):
    def test_no_form_ahead_of_no_plan(self):
        source = random.Random(2)
        forms = STRANGE + NO_TUPLES + [form_of(most=0), list(form_of()), form_of(low=0)]
        forms += [with_part(form_of(), source.randrange(8), anything(source)) for _ in range(300)]
        for form in forms:
            for plan in ([], [note()], None, [None]):
                for ask in (planned, need):
                    if not is_form(form):
                        self.assertRaises(NoForm, ask, form, plan)
                    elif not is_plan(plan):
                        self.assertRaises(NoPlan, ask, form, plan)

    def test_no_plan(self):
        source = random.Random(3)
        plans = NO_PLANS + [[thing] for thing in STRANGE + NO_TUPLES]
        plans += [(), (note(),), [note(place=0)], [come(100)], [back(0)], [note(), back(1)], [note()] * 201,
                  [note(), back(0, "open")], [note(), back(False)], [("wait", SIXTY)]]
        plans += [[note(), anything(source)] for _ in range(500)]
        for plan in plans:
            self.assertFalse(is_plan(plan))
            self.assertRaises(NoPlan, planned, form_of(), plan)
            self.assertRaises(NoPlan, need, form_of(), plan)

    def test_nothing_is_shared(self):
        plan = [note(), line(), back(0), ("wait", 100), note()]
        before = copy.deepcopy(plan)
        told = planned(form_of(), plan)
        self.assertEqual((plan, need(form_of(), plan)), (before, 2))
        told.reverse()
        again = planned(form_of(), plan)
        self.assertEqual(told[::-1], again)
        again.append("x")
        self.assertEqual(planned(form_of(), plan), told[::-1])


def some_plan(source, many):
    """Letters of few doors, and answers to letters that are often living."""
    plan = []
    for at in range(many):
        outs = [k for k, step in enumerate(plan) if step[0] == "out"]
        sort = source.randrange(10)
        if outs and sort < 3:
            k = source.choice(outs[-4:])
            word = "say" if plan[k][1] == "note" else source.choice(["open", "open", "say", "close", "break"])
            plan.append(back(k, word, str(at)))
        elif sort < 5:
            plan.append(("wait", source.choice([0, 1, 1, 2, 3, 9])))
        else:
            kind = source.choice(["note", "line"])
            word = "say" if kind == "note" else source.choice(["open", "open", "open", "say", "close", "break"])
            plan.append(("out", kind, source.randrange(3), source.randrange(1, 6), source.randrange(1, 3),
                         source.randrange(1, 4), word, str(at)))
    return plan


def model_planned(form, plan):
    """Point 20 by the plain model, which keeps every talk that ever was."""
    model, letters = Model(form), {}
    for at, step in enumerate(plan):
        if step[0] != "back":
            answer = model.deed(step)
            if step[0] == "out" and answer[0] == "led":
                names = ("kind", "house", "door", "place", "far")
                letters[at] = [talk for talk in model.all_talks if step[1:6] == tuple([talk[name] for name in names])][-1]
        elif step[1] in letters:
            talk = letters[step[1]]
            if model.now < model.end_of(talk):
                model.deed(("come", talk["kind"], talk["place"], talk["far"], talk["number"]) + step[2:])
    return model.book()


def with_pool(form, many):
    return (500, 499 + many) + form[2:]


def is_full(book):
    return ("kept", "full") in [answer for _, answer in book]


class ManyPlans(unittest.TestCase):
    def test_planned_against_the_model(self):
        source, backs, gone = random.Random(4), 0, 0
        for _ in range(300):
            form, plan = some_form(source), some_plan(source, 40)
            self.assertTrue(is_plan(plan))
            book = planned(form, plan)
            self.assertEqual(book, model_planned(form, plan), (form, plan))
            self.assertIsNone(looked(form, book))
            backs += len([1 for deed, _ in book if deed[0] == "come"])
            gone += len(plan) - len(book)
        self.assertGreater(min(backs, gone), 500)

    def test_whatever_numbers_are_picked_all_is_alike_but_for_the_numbers(self):
        source = random.Random(5)
        for _ in range(100):
            form, plan = some_form(source), some_plan(source, 40)
            many = need(form, plan)
            alike = []
            for pick in ("next", "keep"):
                for low, more in ((1, 0), (3, 0), (1, 5), (700, 50)):
                    if many + more > 0:
                        book = planned(with_part((low, low + many + more - 1) + form[2:], 4, pick), plan)
                        self.assertFalse(is_full(book))
                        alike.append([without_numbers(row) for row in book])
            for rows in alike[1:]:
                self.assertEqual(rows, alike[0])


def without_numbers(row):
    deed, answer = row
    if deed[0] == "come":
        return (without_part(deed, 4), answer)
    return (deed, answer[:1] if answer and answer[0] == "led" else answer)


class Need(unittest.TestCase):
    def check(self, many, plan, **parts):
        form = form_of(**parts)
        for pick in ("next", "keep"):
            self.assertEqual(need(with_part(form, 4, pick), plan), many)
        if many > 0:
            self.assertFalse(is_full(planned(with_pool(form, many), plan)))
        if many > 1:
            self.assertTrue(is_full(planned(with_pool(form, many - 1), plan)))

    def test_no_number_is_lent(self):
        self.check(0, [])
        self.check(0, [("wait", 5), ("wait", 0)])
        self.check(0, [line("say"), back(0, "open"), line("close"), line("break")])

    def test_the_forms_own_pool_does_not_matter(self):
        plan = [note(far=far) for far in range(1, 10)]
        for low, high in ((100, 100), (1, 200), (9999, 9999), (9900, 9999)):
            self.check(9, plan, low=low, high=high, most=200)

    def test_by_each_lending(self):
        plan = [make(place=place, far=far) for make in (lambda **to: note(**to), lambda **to: line("open", **to))
                for place in (1, 2) for far in (1, 2, 3)]
        for lending, many in (("door", 2), ("place", 4), ("talk", 12)):
            self.check(many, plan, lending=lending, most=200)

    def test_most_is_the_forms(self):
        plan = [note(far=far) for far in range(1, 10)] + [note(far=far, house=4) for far in range(1, 10)]
        for most in (1, 2, 8, 9, 10, 200):
            self.check(2 * min(most, 9), plan, most=most)

    def test_rests_count(self):
        plan = [note(), ("wait", 10), note(far=81), ("wait", 6), note(far=82), ("wait", 1), note(far=83)]
        self.check(2, plan[:5], times=(10, 5, 20, 0))
        self.check(3, plan[:5], times=(10, 5, 20, 7))
        self.check(3, plan, times=(10, 5, 20, 0))
        self.check(3, plan, times=(10, 5, 20, 7))
        self.check(2, plan[:3] + [("wait", 10)] + plan[4:5], times=(10, 5, 20, 7))
        self.check(1, plan[:3], times=(10, 5, 20, 0))
        self.check(2, plan[:3], times=(10, 5, 20, 1))
        self.check(1, [note(), ("wait", 11), note(far=81)], times=(10, 5, 20, 1))

    def test_one_number_rests_and_another_is_taken(self):
        # Behind 16 ticks the first one rests still, at 17 it is free, and the second one has just begun its rest.
        self.check(3, [note(), ("wait", 5), note(far=81), ("wait", 11), note(far=82)])
        self.check(2, [note(), ("wait", 5), note(far=81), ("wait", 12), note(far=82)])
        self.check(1, [note(), ("wait", 5), note(far=81)], lending="place")

    def test_a_break_gives_the_number_to_the_rest_at_once(self):
        plan = [line(), line("break"), line(far=81), line("break", far=81), line(far=82)]
        self.check(3, plan, most=1)
        self.check(1, plan, most=1, times=(10, 5, 20, 0))

    def test_backs_make_talks_longer_or_shorter(self):
        longer = [note(), ("wait", 9), back(0), ("wait", 9), note(far=81)]
        self.check(2, longer, renew=True, times=(10, 5, 20, 0))
        self.check(1, longer, renew=False, times=(10, 5, 20, 0))
        self.check(2, [line(), back(0, "open"), ("wait", 19), line(far=81)], times=(10, 5, 20, 0))
        self.check(1, [line(), back(0, "open"), back(0, "break"), line(far=81)], times=(10, 5, 20, 0))
        self.check(1, [line(), ("wait", 19), line(far=81)], times=(10, 5, 20, 0))

    def test_the_greatest_is_not_the_last(self):
        self.check(3, [note(), note(far=81), note(far=82), ("wait", 100), note()])

    def test_two_hundred_letters(self):
        plan = [("out", "note", at % 100, at + 1, 7, 80, "say", "") for at in range(200)]
        for most in (1, 2, 200):
            self.check(200 if most > 1 else 100, plan, most=most)

    def test_against_plain_reckoning(self):
        """At each moment, tick by tick, what is taken or rests by the model; and the least pool that serves."""
        source, seen = random.Random(6), set()
        for _ in range(150):
            form, plan = some_form(source), some_plan(source, 30)
            many = need(form, plan)
            seen.add(many)
            wide = with_part(with_pool(form, 200), 4, source.choice(["next", "keep"]))
            self.assertEqual(many, self.reckoned(wide, plan))
            if many > 0:
                self.assertFalse(is_full(planned(with_pool(form, many), plan)))
            if many > 1:
                self.assertTrue(is_full(planned(with_pool(form, many - 1), plan)))
        self.assertGreater(len(seen), 4)

    def reckoned(self, form, plan):
        greatest = 0
        model = Model(form)
        for deed, answer in model_planned(form, plan):
            for tick in [("wait", 1)] * deed[1] if deed[0] == "wait" else [deed]:
                self.assertEqual(model.deed(tick), answer)
                used = {talk["number"] for talk in model.all_talks if model.now < model.end_of(talk) + form[7][3]}
                greatest = max(greatest, len(used))
        return greatest


if __name__ == "__main__":
    unittest.main()
