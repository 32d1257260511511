"""The section "The interface": what has landed exists under its name, with its arguments, in its own file."""

import ast
import importlib
import inspect
import pathlib
import unittest

import askedtrue

FOLDER = pathlib.Path(askedtrue.__file__).parent
FUNCTIONS = {
    "orders": ["is_whole(thing)", "is_name(thing)"],
    "ordertext": ["order_text(order)", "parse_order(text)"],
    "worlds": ["is_entry(thing)", "true_run(order, world)", "false_ask(order, world, asks)",
               "true_beat(order, world, asks, name)", "fresh_number(worlds, asks)"],
    "turns": ["is_turn(net, way, beat)", "next_turn(net, way, beat)", "turns(net, way, last)", "hops(net, route, beat)",
              "arrive(net, route, beat)"],
    "nettext": ["net_text(net)", "parse_net(text)"],
    "lots": ["touched(net, route)", "could(net, budgets, route)"],
    "scripts": ["script_fault(net, budgets, script)", "spent(net, script)", "make_script(net, bad)",
                "heard_as(script, way, beat, packet)"],
    "plantext": ["plan_text(plan)", "parse_plan(text)"],
    "times": ["paths(order, name)", "crossings(plan, path)", "path_time(plan, path)", "earliest(plan, name)", "latest(plan)"],
    "ceilings": ["ceilings(plan)", "ceilings_fault(plan, marked)", "times_fault(plan, name, timed, marked)"],
    "margins": ["inequalities(plan, deadlines)", "first_broken(rows, pairs)"],
    "corners": ["greatest(plan, deadlines, cap)", "least_broken(plan, deadlines, cap)"],
    "phases": ["best_phases(plan, names)"],
    "tables": ["is_copy(order, end, thing)", "entry_value(table, name, key)", "with_answer(table, name, key, value)",
               "is_within(one, other)", "kept_copies(copies)"],
    "plays": ["play(order, tables)", "play_keys(order, end, own, heard)"],
    "sureness": ["told_counts(copies, name, key=None)", "sure_entry(counts, could)",
                 "sure_values(order, end, table, heard, could)"],
    "tellers": ["teller(plan)"],
    "runner": ["run(net, order, world, program, script, last)", "view(net, told, end, beat)"],
    "runjudge": ["run_fault(net, order, world, script, told)", "judge_run(plan, world, script, told)"],
    "scripttext": ["packet_text(packet)", "parse_packet(text)", "script_text(script)", "parse_script(text)"],
    "passages": ["passages(plan, name)"],
    "foes": ["broken_fault(plan, name, program, broken)"],
    "roundplans": ["crossing(roundplan, source, goal, beat)", "round_times(roundplan, last)",
                   "circuit_weight(roundplan, circuit)"],
    "paces": ["pace(roundplan)", "pace_fault(roundplan, told)", "round_bound(roundplan, told, name, number)"],
    "checks": ["with_checks(plan, lots)", "late_path(plan, deadlines, lots)", "cheapest(plan, deadlines, prices)",
               "checks_fault(plan, deadlines, prices, told)", "worth(plan, name, prices)"],
    "weatherkinds": ["count_weather(most, mark)", "window_weather(length, most, mark)", "burst_weather(longest, gap, mark)",
                     "both(one, other)", "either(one, other)"],
    "watchers": ["listen(receiver, heard)", "watching(weather)", "asking()"],
    "holds": ["held_rows(weather, turn, kind, turns)", "hold(weather, turn, kind)", "hold_fault(weather, turn, kind, told)",
              "joint_states(weather, turn, kind)", "heights(weather, kind)", "worst_hold(weather, kind)"],
    "twins": ["mislead(receiver, weather, turn, turns, values)", "starve(receiver, weather, turn, turns)"],
    "wholes": ["whole_solutions(rows, rights, wide)"],
    "streams": ["encode(width, values)", "least_unlike(width, count)", "unlike(width, count)",
                "enough(width, corrupted, lost)", "confusion(width, count, corrupted, lost)"],
    "surestreams": ["fits_stream(width, heard, values, corrupted)", "sure_places(width, heard, corrupted)",
                    "rivals(width, heard, corrupted, place)", "sure_under(width, heard, weather)"],
    "flows": ["heard_by(net, start, beat, bad=())", "many(net, start, goal, beat, count)",
              "many_fault(net, start, goal, beat, count, told)", "cut(net, start, goal, beat, until)",
              "cut_fault(net, start, goal, beat, until, told)"],
    "ringplans": ["ring_time(plan, name)", "ring_time_fault(plan, name, told)"],
    "flooding": ["flooder(plan)"],
    "cutfoes": ["cut_foe(plan, name, program)"],
    "storytext": ["story_text(story)", "parse_story(text)"],
    "desk": ["retell_story(story)"],
}
GENERATORS = ["hops", "paths"]
CLASSES = {
    "orders": {"Event(name, end, kind, needs=())": [],
               "Order(events)": ["event(name)", "place(name)", "of_end(end)", "foreign(name)", "behind(name)", "loose(name)",
                                 "sources(name)", "as_kind(name, kind)", "key_of(name, values)", "property names",
                                 "__iter__()", "__len__()"]},
    "worlds": {"World(told=(), base=0, factor=0)": ["answer(name, key)", "with_entry(name, key, value)"]},
    "nets": {"Way(source, goal, phase, delay, lot)": [],
             "Net(ends, period, ways)": ["property is_tree", "route(start, goal)", "behind(way)", "ways_from(end)",
                                         "ways_to(end)", "with_phases(phases)", "with_lots(lots)"]},
    "lots": {"Budgets(pairs)": ["property total", "pair(lot)", "with_pair(lot, pair)", "covers(other)", "__iter__()",
                                "__len__()"]},
    "plans": {"Plan(order, net, budgets)": ["with_order(order)", "with_net(net)", "with_budgets(budgets)",
                                            "route(one, other)", "could(one, other)", "touched(one, other)"]},
    "times": {"Crossing(elder, name, ways, sure, last)": [], "Timed(beat, path, clean, held)": []},
    "margins": {"Inequality(es, fs, room, path)": []},
    "corners": {"Corner(pairs, bars)": [], "Breach(pairs, path)": []},
    "phases": {"Phased(phases, beat)": []},
    "tellers": {"Teller(plan, end, table=(), heard=())": ["copies_of(other)", "sure(name)", "due_asks()", "next_ask()",
                                                          "answered(name, key, value)", "packet(way)", "hear(way, packet)"]},
    "runner": {"Run(last, sent, heard, asks)": []},
    "runjudge": {"Right(beats)": [], "Wrong(name, beat)": [], "Beyond(lot)": []},
    "passages": {"HeldTurn(way, beat, kind)": [], "Passage(crossing, start, held, beat)": []},
    "foes": {"Pair(world, other, script, twin, passage)": [], "Broken(word, world, script, name, beat)": [],
             "Game(pairs, broken)": [], "Foe(plan, name)": ["game(program)", "against(program)"]},
    "rounds": {"RoundEvent(name, end, kind, needs=())": [],
               "Rounds(events)": ["in_round(name, number)", "unrolled(many)", "sources(name)", "property names",
                                  "__iter__()", "__len__()"]},
    "roundplans": {"RoundPlan(rounds, net, budgets)": ["plan(many)", "with_budgets(budgets)"]},
    "paces": {"Pace(beats, rounds, circuit, potentials)": []},
    "checks": {"Checked(lots, price, bars)": [], "Never(path)": []},
    "weathers": {"Weather(states, steps)": ["can_be(row)", "each_row(count)"]},
    "watchers": {"Watcher(weather, heard=())": ["hear(packet)", "sure_value()", "may_be_untold()", "fits()",
                                                "possible_values()"]},
    "holds": {"Held(turns, rows)": [], "Endless(rows, rings)": []},
    "twins": {"Misled(word, rows, heard, turn, value, side)": [], "Starved(row, heard, value)": []},
    "wholes": {"Solutions(point, moves)": []},
    "streams": {"Coder(width, stream=())": ["put(value)", "packets()"], "Confused(first, second, heard)": []},
    "flows": {"Many(beat, flows)": []},
    "ringplans": {"RingPlan(order, net, bad, corrupted=True)": [], "RingTime(beat, chain, dealt)": []},
    "stories": {"Story(plan, deeds)": []},
    "desk": {"Desk(plan)": ["times()", "verdict()", "missed()", "take_deed(deed)", "tell_story()", "tried(call)"]},
}


def written(name, thing, skip=0):
    """The name and the parameters of a function as the interface writes them."""
    parameters = list(inspect.signature(thing).parameters.values())[skip:]
    return f"{name}({', '.join(map(str, parameters))})"


def defined(module):
    """The names of all functions and classes that the file itself defines."""
    tree = ast.parse((FOLDER / f"{module}.py").read_text(encoding="utf-8"))
    return [node.name for node in tree.body if isinstance(node, (ast.FunctionDef, ast.ClassDef))]


class Interface(unittest.TestCase):
    def test_functions(self):
        for module, rows in FUNCTIONS.items():
            for row in rows:
                name = row.partition("(")[0]
                self.assertIn(name, defined(module))
                function = getattr(importlib.import_module(f"askedtrue.{module}"), name)
                self.assertEqual(written(name, function), row)
                self.assertEqual(inspect.isgeneratorfunction(function), name in GENERATORS)

    def test_classes(self):
        for module, rows in CLASSES.items():
            for row, methods in rows.items():
                name = row.partition("(")[0]
                self.assertIn(name, defined(module))
                made = getattr(importlib.import_module(f"askedtrue.{module}"), name)
                self.assertEqual(written(name, made), row)
                self.assertIn("__eq__", vars(made))
                for method in methods:
                    self.check_method(made, method)

    def check_method(self, made, method):
        word, _, name = method.partition(" ")
        if word == "property":
            self.assertIsInstance(vars(made)[name], property)
        else:
            name = method.partition("(")[0]
            self.assertEqual(written(name, vars(made)[name], skip=1), method)


if __name__ == "__main__":
    unittest.main()
