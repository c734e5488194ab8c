"""The names, arguments and files of the interface, as far as it has landed."""

import importlib
import inspect
import unittest

INTERFACE = {
    "contents": (
        "is_link(value); is_event(value); is_run(value); is_far_run(value); is_contents(link, value); is_sound(link); "
        "empty(link, bit); is_even(link, contents); old_copies(link, contents, bit); answers(link, contents, bit); "
        "mirrored(link, contents); mirrored_event(event); far_of(run); spread_out(run)"),
    "texts": (
        "text_of_link(link); text_of_contents(link, contents); text_of_far(run); link_of_text(text); "
        "contents_of_text(link, text); far_of_text(text)"),
    "steps": (
        "possible_events(link, contents); is_possible(link, contents, value); behind(link, contents, event); "
        "wrong_step(link, contents, event); leading_to(link, contents, other); ends_turn(link, contents, event); "
        "hands_out(link, contents, event)"),
    "runs": (
        "can_go(link, contents, value); after(link, contents, events); wrong_steps(link, contents, events); "
        "turns_ended(link, contents, events); handed_out(link, contents, events); can_go_far(link, contents, value); "
        "far_after(link, contents, far); far_wrong_steps(link, contents, far); far_turns(link, contents, far); "
        "far_handed(link, contents, far); tally(far)"),
    "harm": (
        "answers_count(link, contents); old_count(link, contents); signs(link, contents); harm(link, contents); "
        "is_harmless(link, contents); harm_behind(link, contents, event); keeping_events(link, contents); "
        "some_contents(link, many)"),
    "worst": (
        "first_wrong(link, contents); worst_run(link, contents); is_worst_run(link, contents, value); "
        "is_worst_event(link, contents, event); worst_by(link, contents, event)"),
    "endless": (
        "is_endless(link, contents, value); endless_run(link, contents); endless_kinds(link); "
        "endless_of(link, contents, wrong)"),
    "doubling": (
        "behind_doubling(link, contents, event); is_doubling_endless(link, contents, value); "
        "doubling_run(link, contents)"),
    "fates": (
        "fates(link, contents); is_fate(link, contents, value); firsts(link, contents); "
        "most_of(link, contents, kind); fates_behind(link, contents, event); fate_run(link, contents, fate); "
        "is_fate_run(link, contents, fate, value)"),
    "quiet": (
        "must(link, contents); quiet_run(link, contents, turns); is_quiet_run(link, contents, turns, value)"),
    "counting": (
        "how_many_contents(link); all_contents(link); contents_numbered(link, number); "
        "number_of_contents(link, contents); next_contents(link, contents); "
        "how_many_such(link, even, done, enough_answers, enough_old)"),
    "shares": (
        "of_harms(link); share_of(link, many); other_done(link, contents); of_harm_numbered(link, many, number); "
        "number_of_its_harm(link, contents); next_of_harm(link, contents); weight_of(link, contents); "
        "least_weights(link); mean_harm(link)"),
    "mending": (
        "is_mending(link, contents, value); mended(link, contents, mending); cost_of(link, contents, mending); "
        "mending_cost(link, contents, most); greatest_cost(link, most); cheapest_mendings(link, contents, most); "
        "is_cheapest(link, contents, most, value); dearer_events(link, contents)"),
    "taking": (
        "taking_cost(link, contents, most); how_many_takings(link, contents, most); harm_by_words(link, contents); "
        "words_for(link, contents, most)"),
    "views": (
        "is_view(link, value); view_of(link, contents); covered(link, view, places); "
        "looks_so(link, contents, view); looking_so(link, view); how_many_look_so(link, view)"),
    "unseen": (
        "seen_harms(link, view); least_harm(link, view); greatest_harm(link, view); worst_look(link, view); "
        "best_look(link, view); worth_looking(link, contents, view)"),
    "faults": (
        "is_fault(value); can_befall(link, contents, value); befallen(link, contents, fault); "
        "faults_of(link, contents); rise(link, contents, fault); worth(link, kind); worst_fault(link, contents)"),
    "budgets": (
        "is_faulty_run(link, contents, value); faulty_after(link, contents, items); "
        "faulty_wrong(link, contents, items); budget(link, contents, items); most_wrong(link, contents, kinds); "
        "worst_faulty(link, contents, kinds); is_worst_faulty(link, contents, kinds, value)"),
    "spare": (
        "spare(link); is_forgiven(link, value); unforgiven(link, kind); is_unforgiven(link, kind, value)"),
    "times": (
        "least_turn(link, contents); least_right(link, contents); turn_run(link, contents); "
        "right_run(link, contents); is_turn_run(link, contents, value); is_right_run(link, contents, value)"),
    "rates": (
        "turn_cost(link); most_right(link, many); events_for(link, letters); busy_run(link, letters); "
        "is_busy_run(link, letters, value); rate_of(link, contents, far)"),
    "webs": (
        "is_web(value); are_web_contents(web, value); can_go_web(web, contents, value); "
        "web_after(web, contents, run); web_wrong_steps(web, contents, run); part_of(web, contents, run, number); "
        "by_ways(web, contents, run); web_harm(web, contents); harm_at(web, contents, host); "
        "ways_by_harm(web, contents); web_mending_cost(web, contents, most); web_mendings(web, contents, most); "
        "are_web_mendings(web, contents, most, value)"),
}


class Interface(unittest.TestCase):
    def test_names_arguments_and_files(self):
        for name, told in INTERFACE.items():
            module = importlib.import_module("healwires." + name)
            for entry in told.split("; "):
                function = getattr(module, entry.partition("(")[0])
                self.assertEqual(function.__name__ + str(inspect.signature(function)), entry)
                self.assertEqual(function.__module__, module.__name__)


if __name__ == "__main__":
    unittest.main()
