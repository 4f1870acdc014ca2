"""The interface: every name is there, in its file, with its arguments."""

import importlib
import inspect
import unittest

from manyleaves import errors

ROWS = """
webs check_web thing
webs neighbours web place
webs touched web places
webs pieces web places
trees right_tree web thing
trees leaves_of tree
trees busy_of tree
trees way_in tree one other
roots parents_of tree root
roots right_parents web root thing
roots tree_of parents
sets right_set web thing
sets tree_by web busy
whys right_why web held barred thing
whys why_not web held barred
musts musts web
musts need_not web place
shares right_shares web prices held barred thing
shares worth_of prices held shares
shares raised web prices held barred order
thin is_thin web held barred limit
cases right_cases web prices held barred limit thing
exact cheapest_set web prices held barred
most most_leaves web wishes
most right_most web wishes thing
exchanges exchanged tree put taken
exchanges rows_of web tree
climbing climbed web tree
climbing right_stopped web tree thing
twice twos_of web tree
twice climbed_twice web tree
twice right_stopped_twice web tree thing
growing grown web
kinds made kind one other
atonce at_once web
apart right_two web thing
apart right_none web thing
two two_trees web
keeper Keeper web
keeper Keeper.put self a b
keeper Keeper.drop self a b
keeper Keeper.now self
keeper Keeper.kept self
led led_web web names
led led_places places names
led led_tree tree names
led led_prices prices names
led led_why why names
led led_shares shares names
led led_cases cases names
led led_none cases names
led led_rows rows names
bounds right_bound web prices thing
bounds least_price prices bound
bounds bound_of web prices
between between web
lean right_needs web busy thing
lean lean_of web busy order
dear cheapest_tree web prices wishes
dear right_cheapest web prices wishes thing
texts web_text web
texts places_text places
texts tree_text tree
texts read_web thing
texts read_places thing
texts read_tree thing
desk Desk web
desk Desk.say self line
"""
ERRORS = ("NoWeb", "TooGreat", "NoSet", "Taken", "TooMany", "NoTie", "Apart", "NoText")


class Interface(unittest.TestCase):

    def test_names_and_arguments(self):
        for row in ROWS.split("\n")[1:-1]:
            file, name, *arguments = row.split(" ")
            deed = importlib.import_module(f"manyleaves.{file}")
            for part in name.split("."):
                deed = getattr(deed, part)
            parameters = inspect.signature(deed).parameters
            self.assertEqual(list(parameters), arguments, row)
            for parameter in parameters.values():
                self.assertIs(parameter.kind, inspect.Parameter.POSITIONAL_OR_KEYWORD, row)
                self.assertIs(parameter.default, inspect.Parameter.empty, row)

    def test_errors(self):
        self.assertIs(errors.LeafError.__base__, ValueError)
        for name in ERRORS:
            error = getattr(errors, name)
            self.assertIs(error.__base__, errors.LeafError)
            self.assertIsInstance(error(), ValueError)


if __name__ == "__main__":
    unittest.main()
