"""Tests of stylefall.rules: promises 10 and 11, and 1 and 4 to 6 for these functions."""

import copy
import itertools
import random
import unittest

from stylefall.errors import BadChain, BadRule
from stylefall.rules import follow, follows, is_stuck, need_rule
from tests.things import (
    Agreeable, Awkward, Given, all_chains, deep_in, is_chain, is_name, odd_things, raised_by, some_of, worth_of)

RULE = (((), None), (("a",), "x"), (("a", "b"), "x"), (("b",), "y"))
CROSS = ((("a",), "x"), (("a", "b"), "y"), (("b",), "x"))
MANY = tuple((terminal, None) for terminal in sorted(some_of("abcdefg"))[:64])
LETTERS = "abcdefghijklmnopqrstuvwxyz"


def is_terminal(thing):
    if not isinstance(thing, tuple) or len(thing) > 12 or not all(map(is_name, thing)):
        return False
    return list(thing) == sorted(set(thing))


def place_of(thing):
    """Where a thing is no rule, as BadRule has it, or "" of a rule."""
    if not isinstance(thing, tuple) or len(thing) > 64:
        return None
    for number, pair in enumerate(thing):
        if not isinstance(pair, tuple) or len(pair) != 2 or not is_terminal(pair[0]):
            return number
        if not (pair[1] is None or is_name(pair[1])):
            return number
        ahead = [terminal for terminal, _ in thing[:number]]
        if ahead and not ahead[-1] < pair[0]:
            return number
        if len(set(itertools.chain(*ahead, pair[0]))) > 12:
            return number
    return ""


def chain_follows(chain, rule):
    return all(worth_of(chain, terminal) == want for terminal, want in rule)


def stuck_of(rule, terminals):
    """Whether terminals of a rule are stuck, by the words of the document."""
    wants = dict(rule)
    if all(wants[terminal] is None for terminal in terminals):
        return False
    for kind in LETTERS:
        told = {wants[terminal] for terminal in terminals if kind in terminal}
        if len(told) == 1 and told != {None}:
            return False
    return True


def some_rule(chance, kinds, values, most):
    terminals = some_of(kinds)
    some = sorted(chance.sample(terminals, chance.randint(0, min(most, len(terminals)))))
    return tuple((terminal, chance.choice(values)) for terminal in some)


def rule_of_chain(chance, kinds, values):
    """A rule that a chain follows."""
    order = chance.sample(kinds, chance.randint(0, len(kinds)))
    chain = tuple((kind, chance.choice(values)) for kind in order)
    terminals = sorted(chance.sample(some_of(kinds), chance.randint(0, 2 ** len(kinds))))
    return tuple((terminal, worth_of(chain, terminal)) for terminal in terminals)


class NeedRule(Given):
    def check(self, thing, place):
        self.assertEqual(place_of(thing), place)
        if place == "":
            self.assertIs(need_rule(thing), thing)
        else:
            self.assertEqual(self.check_raised(BadRule, need_rule, thing).place, place)

    def test_rules(self):
        for rule in ((), (((), None),), (((), "x"),), RULE, CROSS, ((("abcdefgh",), "zzzzzzzz"),),
                     ((("a",), None), (("a", "b"), None), (("aa",), "plain")), ((tuple("abcdefghijkl"), "x"),)):
            self.check(rule, "")

    def test_64_items_and_no_more(self):
        self.check(MANY, "")
        more = tuple((terminal, None) for terminal in sorted(some_of("abcdefg"))[:65])
        self.check(more, None)
        self.check(more[1:], "")
        self.check((None,) * 65, None)
        self.check(((("a",), "x"),) * 100000, None)

    def test_no_tuples(self):
        for thing in (None, True, 0, "", "ab", b"", [], {}, set(), list(RULE), dict(RULE), iter(RULE), Awkward(),
                      Agreeable(), 10 ** 5000):
            self.check(thing, None)

    def test_the_first_item_that_is_no_pair(self):
        for thing in (None, True, 1, "ax", ["a", "x"], [("a",), "x"], ("a", "x"), (("a",),), (("a",), "x", "y"), (),
                      (["a"], "x"), (("a",), ("x",)), (("a",), ["x"]), (("a",), False), (("a",), 0), (("a",), ""),
                      (("a",), "X"), (("a",), "abcdefghi"), (("b", "a"), "x"), (("a", "a"), "x"), (("A",), "x"),
                      (tuple("abcdefghijklm"), "x"), (None, "x"), ({}, None), (Awkward(), "x"), (("a",), Awkward()),
                      ((Agreeable(),), "x"), (("a",), Agreeable())):
            self.check((thing,), 0)
            self.check((((), "x"), thing), 1)
            self.check((((), "x"), thing, None, thing), 1)
            self.check((((), "x"), (("a",), None), (("b",), "y"), thing), 3)

    def test_terminals_that_do_not_ascend(self):
        self.check(((("a",), "x"), ((), "x")), 1)
        self.check((((), "x"), ((), "x")), 1)
        self.check(((("a",), "x"), (("a",), "y")), 1)
        self.check(((("a",), "x"), (("b",), "x"), (("a", "b"), "x"), (("c",), "x"), (("c",), "x")), 2)
        self.check(((("aa",), "x"), (("a", "b"), "x")), 1)
        self.check(((("a", "b"), "x"), (("aa",), "x")), "")
        self.check(((("b",), "x"), (("a", "b"), "x")), 1)

    def test_twelve_kinds_in_all_and_no_more(self):
        singles = tuple(((kind,), "x") for kind in LETTERS)
        self.check(singles[:12], "")
        self.check(singles[:13], 12)
        self.check(singles, 12)
        self.check(((tuple("abcdefghijkl"), "x"), (("b", "c", "l"), None), (("l",), "y")), "")
        self.check(((tuple("abcdefghijkl"), "x"), (("b", "m"), None), (("l",), "y")), 1)
        self.check(((tuple("abcdefg"), "x"), (tuple("hijklm"), "x")), 1)
        self.check(((tuple("abcdefg"), "x"), (tuple("ghijkl"), "x")), "")

    def test_things_of_all_kinds(self):
        good = 0
        for thing in odd_things():
            for rule in (thing, (thing,), ((thing, "x"),), (((), thing),), (((), "x"), ((thing,), None)),
                         ((("a",), "x"), (("b",), thing))):
                place = place_of(rule)
                self.check(rule, place)
                good += place == ""
        self.assertGreater(good, 10)

    def test_tuples_deep_in_one_another(self):
        deep = deep_in(tuple, "a", 50000)
        for thing in (deep, (deep, "x"), (("a",), deep), ((deep,), "x")):
            self.check((thing,), 0)


class Follows(Given):
    def test_worths_that_are_wanted(self):
        chain = (("a", "x"), ("b", "y"))
        self.assertIs(follows(chain, RULE), True)
        self.assertIs(follows(chain[::-1], RULE), False)
        self.assertIs(follows(chain[:1], RULE), False)
        self.assertIs(follows(chain, RULE[:3]), True)
        self.assertIs(follows(chain + (("c", "z"),), RULE), True)
        self.assertIs(follows((("c", "z"),) + chain, RULE), True)
        self.assertIs(follows(chain, ((("c",), None),)), True)
        self.assertIs(follows(chain + (("c", "z"),), ((("c",), None),)), False)

    def test_the_empty_rule_and_the_empty_chain(self):
        for chain in ((), (("a", "x"),), (("a", "x"), ("b", "y"))):
            self.assertIs(follows(chain, ()), True)
        self.assertIs(follows((), RULE[:1]), True)
        self.assertIs(follows((), RULE), False)
        self.assertIs(follows((), MANY), True)

    def test_the_terminal_that_knows_nothing(self):
        for chain in ((), (("a", "x"),)):
            self.assertIs(follows(chain, (((), None),)), True)
            self.assertIs(follows(chain, (((), "x"),)), False)

    def test_wants_that_are_none(self):
        self.assertIs(follows((("b", "x"),), ((("a",), None), (("b",), "x"))), True)
        self.assertIs(follows((("b", "x"),), ((("a",), None), (("b",), None))), False)
        self.assertIs(follows((("b", "x"),), ((("a", "b"), None),)), False)

    def test_random_rules(self):
        chance = random.Random(20)
        told = [0, 0]
        for chain in all_chains("abc", "xy"):
            rule = rule_of_chain(chance, "abc", "xy") + (((("d",), None),) if chance.random() < 0.5 else ())
            for some in (rule, some_rule(chance, "abcd", ("x", "y", None), 3)):
                self.assertIs(follows(chain, some), chain_follows(chain, some))
                told[chain_follows(chain, some)] += 1
        self.assertGreater(min(told), 20)

    def test_bad_chains_then_bad_rules(self):
        for thing in odd_things() + [(("a", "x"), ("a", "y")), [("a", "x")]]:
            for rule in (RULE, None, thing):
                if not is_chain(thing):
                    self.assertIs(self.check_raised(BadChain, follows, thing, rule).given, thing)
            for chain in ((), (("a", "x"),)):
                place = place_of(thing)
                if place != "":
                    self.assertEqual(self.check_raised(BadRule, follows, chain, thing).place, place)
        self.assertEqual(self.check_raised(BadRule, follows, (), RULE + RULE).place, 4)


class Follow(Given):
    def check(self, rule):
        told = follow(rule)
        self.assertIs(told.__class__, tuple)
        name, found = told
        self.assertIs(found.__class__, tuple)
        if name == "chain":
            known = {kind for terminal, _ in rule for kind in terminal}
            self.assertLessEqual({kind for kind, _ in found}, known)
            self.assertEqual(len({kind for kind, _ in found}), len(found))
            self.assertTrue(all(pair.__class__ is tuple and len(pair) == 2 for pair in found))
            self.assertTrue(chain_follows(found, rule))
            self.assertIs(follows(found, rule), True)
        else:
            self.assertEqual(name, "stuck")
            self.assertEqual(list(found), sorted(set(found) & set(dict(rule))))
            self.assertTrue(stuck_of(rule, found))
            self.assertIs(is_stuck(rule, found), True)
        return name

    def test_rules_that_are_followed(self):
        for rule in ((), (((), None),), RULE, MANY, ((("a",), None), (("a", "b"), "x")),
                     ((("a",), "x"), (("a", "b"), "y"), (("b",), "y")), ((tuple("abcdefghijkl"), "x"),)):
            self.assertEqual(self.check(rule), "chain")
        self.assertEqual(follow(()), ("chain", ()))
        self.assertEqual(follow(MANY), ("chain", ()))
        self.assertEqual(follow(((("a",), "x"), (("a", "b"), "y"), (("b",), "y"))), ("chain", (("b", "y"), ("a", "x"))))

    def test_rules_that_are_stuck(self):
        for rule in (CROSS, (((), "x"),), ((("a",), None), (("a", "b"), "x"), (("b",), None)),
                     ((("a",), "x"), (("a", "b"), None))):
            self.assertEqual(self.check(rule), "stuck")
        self.assertEqual(follow((((), "x"), (("a",), "y"))), ("stuck", ((),)))
        self.assertEqual(follow(CROSS), ("stuck", tuple(terminal for terminal, _ in CROSS)))

    def test_all_small_rules_by_all_chains_and_all_tuples(self):
        terminals = sorted(some_of("ab"))
        chains = list(all_chains("ab", "xy"))
        told = {"chain": 0, "stuck": 0}
        for some in some_of(terminals):
            for wants in itertools.product(("x", "y", None), repeat=len(some)):
                rule = tuple(zip(some, wants))
                name = self.check(rule)
                told[name] += 1
                self.assertEqual(name == "chain", any(chain_follows(chain, rule) for chain in chains))
                self.assertEqual(name == "stuck", any(stuck_of(rule, tuples) for tuples in some_of(some)))
        self.assertGreater(min(told.values()), 50)

    def test_random_rules_by_all_chains(self):
        chance = random.Random(21)
        chains = list(all_chains("abc", "xy"))
        told = {"chain": 0, "stuck": 0}
        for _ in range(400):
            rule = some_rule(chance, "abc", ("x", "y", None), 5)
            if chance.random() < 0.5:
                rule = rule_of_chain(chance, "abc", "xy")
            name = self.check(rule)
            told[name] += 1
            self.assertEqual(name == "chain", any(chain_follows(chain, rule) for chain in chains))
        self.assertGreater(min(told.values()), 50)

    def test_large_rules(self):
        chance = random.Random(22)
        kinds = "abcdefghijkl"
        terminals = some_of(kinds)
        for _ in range(30):
            order = chance.sample(kinds, 12)
            chain = tuple((kind, chance.choice("xyz")) for kind in order)
            some = sorted(chance.sample(terminals, 64))
            rule = tuple((terminal, worth_of(chain, terminal)) for terminal in some)
            self.assertEqual(self.check(rule), "chain")
            at = chance.randrange(64)
            self.check(rule[:at] + ((some[at], "w"),) + rule[at + 1:])
        stairs = tuple((tuple(kinds[:many + 1]), kinds[many]) for many in range(12))
        self.assertEqual(self.check(stairs), "chain")
        self.assertEqual(follow(stairs)[1], tuple((kind, kind) for kind in kinds[::-1]))

    def test_what_is_no_rule(self):
        for thing in odd_things() + [list(RULE), RULE[::-1], RULE + RULE]:
            place = place_of(thing)
            if place != "":
                self.assertEqual(self.check_raised(BadRule, follow, thing).place, place)
                self.assertEqual(self.check_raised(BadRule, is_stuck, thing, ()).place, place)
                self.assertEqual(self.check_raised(BadRule, is_stuck, thing, thing).place, place)


class IsStuck(Given):
    def test_all_tuples_of_small_rules(self):
        chance = random.Random(23)
        told = [0, 0]
        for _ in range(300):
            rule = some_rule(chance, "abc", ("x", "y", None), 5)
            for some in some_of([terminal for terminal, _ in rule]):
                self.assertIs(is_stuck(rule, some), stuck_of(rule, some))
                told[stuck_of(rule, some)] += 1
        self.assertGreater(min(told), 300)

    def test_some_wants_have_to_be_values(self):
        self.assertIs(is_stuck(CROSS, ()), False)
        self.assertIs(is_stuck((), ()), False)
        self.assertIs(is_stuck(MANY, tuple(terminal for terminal, _ in MANY)), False)
        self.assertIs(is_stuck((((), None), (("a",), "x"), (("a", "b"), None)), ((), ("a",), ("a", "b"))), True)
        self.assertIs(is_stuck((((), None), (("a",), "x"), (("a", "b"), None)), ((), ("a",))), False)
        self.assertIs(is_stuck((((), None), (("a",), "x"), (("a", "b"), None)), ((), ("a", "b"))), False)

    def test_the_terminal_that_knows_nothing(self):
        self.assertIs(is_stuck((((), "x"),), ((),)), True)
        self.assertIs(is_stuck((((), None),), ((),)), False)
        self.assertIs(is_stuck((((), "x"), (("a",), "x")), ((), ("a",))), False)

    def test_terminals_that_do_not_ascend_or_stand_twice(self):
        stuck = tuple(terminal for terminal, _ in CROSS)
        for order in itertools.permutations(stuck):
            self.assertIs(is_stuck(CROSS, order), order == stuck)
        self.assertIs(is_stuck(CROSS, stuck + stuck[-1:]), False)
        self.assertIs(is_stuck(CROSS, stuck[:1] + stuck), False)
        self.assertIs(is_stuck((((), "x"),), ((), ())), False)

    def test_terminals_that_are_not_of_the_rule(self):
        stuck = tuple(terminal for terminal, _ in CROSS)
        for more in ((), ("c",), ("a", "b", "c"), ("b", "c"), ("aa",)):
            self.assertIs(is_stuck(CROSS, tuple(sorted(stuck + (more,)))), False)
            self.assertIs(is_stuck(CROSS, (more,)), False)
        self.assertIs(is_stuck(CROSS, (("b", "a"),)), False)
        more = CROSS + ((("c",), None), (("d",), None))
        self.assertIs(is_stuck(more, stuck), True)
        self.assertIs(is_stuck(more, stuck + (("c",),)), True)
        self.assertIs(is_stuck(more, stuck + (("b", "c"),)), False)
        self.assertIs(is_stuck(more, ((),) + stuck), False)

    def test_things_of_other_kinds(self):
        stuck = tuple(terminal for terminal, _ in CROSS)
        more = [list(stuck), [list(terminal) for terminal in stuck], set(stuck), dict(CROSS), CROSS, stuck[0]]
        for thing in odd_things() + more:
            for some in (thing, (thing,), stuck + (thing,), (thing,) + stuck, stuck[:2] + (thing,), ((thing,),),
                         stuck[:2] + ((thing,),), stuck * 2 + (thing,)):
                for rule in (CROSS, RULE, ()):
                    self.assertIs(is_stuck(rule, some), False)

    def test_things_that_say_that_they_are_equal(self):
        rule = (((), "x"), (("a",), "y"))
        self.assertIs(is_stuck(rule, (Agreeable(),)), False)
        self.assertIs(is_stuck(rule, ((), (Agreeable(),))), False)
        self.assertIs(is_stuck(rule, ((),)), True)
        self.assertIs(is_stuck(rule, (Awkward(),)), False)

    def test_more_terminals_than_a_rule_may_have(self):
        self.assertIs(is_stuck(MANY, tuple(sorted(some_of("abcdefgh")))), False)
        self.assertIs(is_stuck(CROSS, ((),) * 100000), False)


class Calls(Given):
    def test_equal_calls_return_equal_results_and_change_nothing(self):
        kept = copy.deepcopy((RULE, CROSS))
        for _ in range(2):
            self.assertEqual(follow(RULE)[0], "chain")
            self.assertEqual(follow(RULE), follow(copy.deepcopy(RULE)))
            self.assertEqual(follow(CROSS), follow(copy.deepcopy(CROSS)))
            self.assertIs(is_stuck(CROSS, follow(CROSS)[1]), True)
            self.assertIs(follows((), ()), True)
            self.assertEqual((RULE, CROSS), kept)

    def test_a_call_that_raises_changes_nothing(self):
        for thing in (["a"], [("a",), "x"], (["a"], "x"), {"a": ["x"]}, ((["a"], "x"),)):
            kept = copy.deepcopy(thing)
            for deed, more in ((need_rule, ()), (follow, ()), (is_stuck, (thing,))):
                self.check_raised(BadRule, deed, thing, *more)
            self.check_raised(BadRule, follows, (), thing)
            self.assertIs(is_stuck(CROSS, thing), False)
            self.assertEqual(thing, kept)
        self.assertIsNone(raised_by(is_stuck, RULE, [[]]))


if __name__ == "__main__":
    unittest.main()
