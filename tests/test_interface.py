"""The interface: every name is there, with its arguments as the document tells them."""

import importlib
import inspect
import unittest

INTERFACE = {
    "systems": ("check(thing)", "names_of(system)", "signs_of(system)"),
    "texts": ("show_system(system)", "read_system(text)", "show_words(names, words)", "read_words(names, text)"),
    "answers": ("filled(side, names, words)", "holds(system, words)"),
    "sums": ("sums(system)", "lacking(system)"),
    "turning": ("turned(system)", "mirrored(system)", "renamed(system, old, new)"),
    "rooms": ("stripped(equations)", "first_room(system)", "is_ended(room)", "is_dead(room)"),
    "steps": ("steps_of(room)", "stepped(room, step)", "led(room, step, words)", "onward(room, step, words)"),
    "nets": ("net_of(system, most=500)", "ranks(net)", "one_answer(system, most=500)"),
    "papers": ("lets_by(system, paper)", "paper_of(system, most=500)"),
    "ways": ("way_of(system, words)", "led_back(system, steps, rest)"),
    "ties": ("tied(system, lengths)",),
    "tables": ("tuples_to(k, s, m)", "answers_to(system, signs, most)", "least_to(system, signs, most)",
               "lengths_to(system, signs, most)"),
    "machines": ("is_machine(thing)", "leads(machine, room, word)"),
    "kinds": ("kind_of(machine, word)", "together(one, other)", "kinds_of(machine)"),
    "fitted": ("fits(system, machine, goods, words)", "begins(system, machine, goods)", "fitted_steps(machine, room)"),
    "fitnets": ("fitted_net(system, machine, goods, most=500)", "fitted_answer(system, machine, goods, most=500)",
                "fitted_paper(system, machine, goods, most=500)", "fitted_lets_by(system, machine, goods, paper)"),
    "reports": ("report(text, signs='ab', most=3)",),
}


class TheInterface(unittest.TestCase):
    def test_names_and_arguments(self):
        for module, told in INTERFACE.items():
            for row in told:
                with self.subTest(module=module, row=row):
                    name = row.partition("(")[0]
                    asked = getattr(importlib.import_module("gapwords." + module), name)
                    self.assertEqual(name + str(inspect.signature(asked)), row)
