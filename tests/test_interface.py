"""The names, arguments and files of the interface, as far as it has landed."""

import importlib
import inspect
import pathlib
import unittest

INTERFACE = {
    "contents": (
        "is_link(value); is_event(value); is_run(value); is_far_run(value); is_contents(link, value); is_sound(link); "
        "empty(link, bit); is_even(link, contents); old_copies(link, contents, bit); answers(link, contents, bit); "
        "mirrored(link, contents); mirrored_event(event); far_of(run); spread_out(run)"),
    "texts": (
        "text_of_link(link); text_of_contents(link, contents); text_of_far(run); link_of_text(text); "
        "contents_of_text(link, text); far_of_text(text)"),
    "steps": (
        "possible_events(link, contents); is_possible(link, contents, value); behind(link, contents, event); "
        "wrong_step(link, contents, event); leading_to(link, contents, other); ends_turn(link, contents, event); "
        "hands_out(link, contents, event)"),
    "runs": (
        "can_go(link, contents, value); after(link, contents, events); wrong_steps(link, contents, events); "
        "turns_ended(link, contents, events); handed_out(link, contents, events); can_go_far(link, contents, value); "
        "far_after(link, contents, far); far_wrong_steps(link, contents, far); far_turns(link, contents, far); "
        "far_handed(link, contents, far); tally(far)"),
    "harm": (
        "answers_count(link, contents); old_count(link, contents); signs(link, contents); harm(link, contents); "
        "is_harmless(link, contents); harm_behind(link, contents, event); keeping_events(link, contents); "
        "some_contents(link, many)"),
    "worst": (
        "first_wrong(link, contents); worst_run(link, contents); is_worst_run(link, contents, value); "
        "is_worst_event(link, contents, event); worst_by(link, contents, event)"),
    "endless": (
        "is_endless(link, contents, value); endless_run(link, contents); endless_kinds(link); "
        "endless_of(link, contents, wrong)"),
    "doubling": (
        "behind_doubling(link, contents, event); is_doubling_endless(link, contents, value); "
        "doubling_run(link, contents)"),
    "fates": (
        "fates(link, contents); is_fate(link, contents, value); firsts(link, contents); "
        "most_of(link, contents, kind); fates_behind(link, contents, event); fate_run(link, contents, fate); "
        "is_fate_run(link, contents, fate, value)"),
    "quiet": (
        "must(link, contents); quiet_run(link, contents, turns); is_quiet_run(link, contents, turns, value)"),
    "counting": (
        "how_many_contents(link); all_contents(link); contents_numbered(link, number); "
        "number_of_contents(link, contents); next_contents(link, contents); "
        "how_many_such(link, even, done, enough_answers, enough_old)"),
    "shares": (
        "of_harms(link); share_of(link, many); other_done(link, contents); of_harm_numbered(link, many, number); "
        "number_of_its_harm(link, contents); next_of_harm(link, contents); weight_of(link, contents); "
        "least_weights(link); mean_harm(link)"),
    "mending": (
        "is_mending(link, contents, value); mended(link, contents, mending); cost_of(link, contents, mending); "
        "mending_cost(link, contents, most); greatest_cost(link, most); cheapest_mendings(link, contents, most); "
        "is_cheapest(link, contents, most, value); dearer_events(link, contents)"),
    "taking": (
        "taking_cost(link, contents, most); how_many_takings(link, contents, most); harm_by_words(link, contents); "
        "words_for(link, contents, most)"),
    "views": (
        "is_view(link, value); view_of(link, contents); covered(link, view, places); "
        "looks_so(link, contents, view); looking_so(link, view); how_many_look_so(link, view)"),
    "unseen": (
        "seen_harms(link, view); least_harm(link, view); greatest_harm(link, view); worst_look(link, view); "
        "best_look(link, view); worth_looking(link, contents, view)"),
    "faults": (
        "is_fault(value); can_befall(link, contents, value); befallen(link, contents, fault); "
        "faults_of(link, contents); rise(link, contents, fault); worth(link, kind); worst_fault(link, contents)"),
    "budgets": (
        "is_faulty_run(link, contents, value); faulty_after(link, contents, items); "
        "faulty_wrong(link, contents, items); budget(link, contents, items); most_wrong(link, contents, kinds); "
        "worst_faulty(link, contents, kinds); is_worst_faulty(link, contents, kinds, value)"),
    "spare": (
        "spare(link); is_forgiven(link, value); unforgiven(link, kind); is_unforgiven(link, kind, value)"),
    "times": (
        "least_turn(link, contents); least_right(link, contents); turn_run(link, contents); "
        "right_run(link, contents); is_turn_run(link, contents, value); is_right_run(link, contents, value)"),
    "rates": (
        "turn_cost(link); most_right(link, many); events_for(link, letters); busy_run(link, letters); "
        "is_busy_run(link, letters, value); rate_of(link, contents, far)"),
    "webs": (
        "is_web(value); are_web_contents(web, value); can_go_web(web, contents, value); "
        "web_after(web, contents, run); web_wrong_steps(web, contents, run); part_of(web, contents, run, number); "
        "by_ways(web, contents, run); web_harm(web, contents); harm_at(web, contents, host); "
        "ways_by_harm(web, contents); web_mending_cost(web, contents, most); web_mendings(web, contents, most); "
        "are_web_mendings(web, contents, most, value)"),
    "rows": (
        "is_row(web, value); how_many_given(web, contents, row, run); handed_along(web, contents, row, run); "
        "row_faults(web, contents, row, run); still_held(web, contents, row, run)"),
    "words": (
        "is_word_contents(link, value); word_events(link, words); word_run(link, words, given, events); "
        "greatest_old(link, words); word_harm(link, words); least_apart(due, handed); explained(due, handed); "
        "is_explained(due, handed, value); word_worst(link, words); is_word_worst(link, words, value)"),
    "odd": (
        "is_odd(link, contents); odd_between(link, contents, other); freeing_events(link, contents); "
        "freed(link, contents, far)"),
    "settling": (
        "settled_by(link, contents); unsettled_run(link, contents); is_unsettled_run(link, contents, value); "
        "two_turn_wrongs(link, contents); two_turn_run(link, contents, many); "
        "is_two_turn_run(link, contents, many, value); lies_in(link, contents, other); cheapest_sound(places, back); "
        "price(places, back)"),
    "live": "is_deed(live, value)",
}
METHODS = (
    "link(); contents(); told(); do(deed); undo(); redo(); log(); copy(); wrongs(); turns(); faults(); harm_now(); "
    "harm_after(deed); is_safe()")
ERRORS = (
    "WireError InvalidNumber InvalidLink InvalidContents InvalidEvent InvalidRun InvalidBit InvalidView InvalidWeb "
    "InvalidWords InvalidText InvalidDeed Unlike TooMany NothingToUndo NothingToRedo")


class Interface(unittest.TestCase):
    def test_names_arguments_and_files(self):
        for name, told in INTERFACE.items():
            module = importlib.import_module("healwires." + name)
            for entry in told.split("; "):
                function = getattr(module, entry.partition("(")[0])
                self.assertEqual(function.__name__ + str(inspect.signature(function)), entry)
                self.assertEqual(function.__module__, module.__name__)

    def test_the_methods_of_a_live_link(self):
        module = importlib.import_module("healwires.live")
        self.assertEqual(str(inspect.signature(module.LiveLink)), "(link, start)")
        self.assertEqual(module.LiveLink.__module__, "healwires.live")
        for entry in METHODS.split("; "):
            name, _, rest = entry.partition("(")
            method = vars(module.LiveLink)[name]
            wanted = "(self)" if rest == ")" else "(self, " + rest
            self.assertEqual(str(inspect.signature(method)), wanted)

    def test_errors(self):
        module = importlib.import_module("healwires.errors")
        for name in ERRORS.split():
            self.assertEqual(getattr(module, name).__module__, "healwires.errors")

    def test_all_that_the_document_lists(self):
        """The names of the last section, where the document lies beside the repository."""
        document = pathlib.Path(__file__).parents[2] / "shared" / "DOC.md"
        if not document.exists():
            self.skipTest("no document")
        rows = document.read_text().partition("# The interface")[2].splitlines()
        rows = [row.split("|")[1:3] for row in rows if row.startswith("| healwires.")]
        told = {name.strip().partition(".")[2]: entries.strip().replace("`", "") for name, entries in rows}
        self.assertEqual(told.pop("errors").split(", "), ERRORS.split())
        self.assertEqual(told.pop("live"), "LiveLink(link, start): " + METHODS.replace("; ", ", ") + "; "
                         + INTERFACE["live"])
        self.assertEqual(told, {name: INTERFACE[name] for name in INTERFACE if name != "live"})


if __name__ == "__main__":
    unittest.main()
