"""[1] and [2] over the whole program: arguments, results, and that nothing but the arguments counts."""
import copy
import inspect
import random
import unittest

from hushedasks import books, errors, lacks, library, live, lots, numbers, rows, runs, tables, texts
from hushedasks.books import Book
from hushedasks.library import Library
from hushedasks.live import Live
from samples import DEEDS, Case, any_values, mend_book, nested

SEED = 20261124
GOAL = ("mends", [0, 1, 1])


def shelf():
    made = Library()
    made.put("mend", mend_book())
    made.put("asks", mend_book(["ask"]))
    return made


def led_on():
    made = Live(mend_book())
    made.hear(("has", "ask", "has"))
    return made


# Each call as a function, and what makes its arguments anew. A method stands here with its object as the first one.
CALLS = [
    (Book, lambda: [["idle"], ["lacks", "has"], [("lacks", "ask", "has")], [("lacks", "mend", "has")], ["mend"]]),
    (Book.houses, lambda: [mend_book()]),
    (Book.stands, lambda: [mend_book()]),
    (Book.deeds, lambda: [mend_book()]),
    (Book.hearings, lambda: [mend_book()]),
    (Book.lost, lambda: [mend_book()]),
    (Book.sounds, lambda: [mend_book()]),
    (runs.is_run, lambda: [mend_book(), ("idle", [2, 0, 0]), [("deed", 0, None), ("fall", "waits")]]),
    (runs.next_events, lambda: [mend_book(), ("mends", [1, 1, 0]), [("deed", 0, None)]]),
    (runs.led, lambda: [mend_book(), ("idle", [2, 0, 0]), [("deed", 0, None)]]),
    (runs.led, lambda: [mend_book(), ("idle", [2, 0, 0]), []]),
    (lots.least_lots, lambda: [mend_book(), copy.deepcopy(GOAL)]),
    (lots.least_lots, lambda: [mend_book(), (None, [0, 0, 0])]),
    (lots.comes_to, lambda: [mend_book(), ("mends", [1, 1, 0]), copy.deepcopy(GOAL)]),
    (lots.bar, lambda: [mend_book(), copy.deepcopy(GOAL)]),
    (lots.is_bar, lambda: [mend_book(), copy.deepcopy(GOAL), lots.bar(mend_book(), GOAL)]),
    (numbers.beginning, lambda: [mend_book(), 3]),
    (numbers.least_number, lambda: [mend_book(), ("mends", [0, 2, 0])]),
    (numbers.run_to, lambda: [mend_book(), ("idle", [0, 0, 2])]),
    (rows.least_for_row, lambda: [mend_book(["ask"]), ["ask", "ask"]]),
    (rows.run_of_row, lambda: [mend_book(["ask"]), ["ask", "ask"]]),
    (rows.least_for_log, lambda: [mend_book(["ask"]), ["ask", "ask", "mend"]]),
    (rows.run_of_log, lambda: [mend_book(["ask"]), ["ask", "ask", "mend"]]),
    (lacks.alone, lambda: [mend_book(), "idle", "lacks"]),
    (lacks.lasting, lambda: [mend_book(), ["has"]]),
    (lacks.lack_run, lambda: [mend_book(), "idle", "waits"]),
    (tables.table, lambda: [mend_book()]),
    (tables.first_unlike, lambda: [mend_book(), mend_book([])]),
    (tables.beyond, lambda: [mend_book(), mend_book([])]),
    (tables.without, lambda: [mend_book(), ("hearing", 1)]),
    (tables.spare, lambda: [mend_book(["mend", "gone"])]),
    (Live, lambda: [mend_book()]),
    (Live.add, lambda: [led_on(), ("has", None, "has")]),
    (Live.hear, lambda: [led_on(), ("has", "mend", "has")]),
    (Live.leave, lambda: [led_on(), ("deed", 0)]),
    (Live.shown, lambda: [led_on()]),
    (Live.least_number, lambda: [led_on(), copy.deepcopy(GOAL)]),
    (Live.lasting, lambda: [led_on(), ["has"]]),
    (Live.back, lambda: [led_on()]),
    (Live.log, lambda: [led_on()]),
    (Live.copy, lambda: [led_on()]),
    (texts.text_of, lambda: [mend_book()]),
    (texts.read_book, lambda: [texts.text_of(mend_book())]),
    (Library, lambda: []),
    (Library.put, lambda: [shelf(), "new", mend_book()]),
    (Library.drop, lambda: [shelf(), "mend"]),
    (Library.change, lambda: [shelf(), "mend", mend_book([])]),
    (Library.book_of, lambda: [shelf(), "mend"]),
    (Library.names, lambda: [shelf()]),
    (Library.alike, lambda: [shelf(), mend_book()]),
    (Library.bearing, lambda: [shelf(), ["ask", "ask"]]),
    (Library.back, lambda: [shelf()]),
    (Library.log, lambda: [shelf()]),
    (Library.copy, lambda: [shelf()]),
]
STEPS = [Live.add, Live.hear, Live.leave, Live.back, Library.put, Library.drop, Library.change, Library.back]


def told(value):
    """A value as a text, in which books, live books and libraries are told by what they hold."""
    if isinstance(value, Book):
        return "Book " + texts.text_of(value)
    if isinstance(value, Live):
        return "Live " + told(value.shown()) + repr(value.log())
    if isinstance(value, Library):
        return "Library " + repr([(name, told(value.book_of(name))) for name in value]) + repr(value.log())
    if isinstance(value, (list, tuple)):
        return type(value).__name__ + repr([told(item) for item in value])
    return repr(value)


def spoil(value):
    """Change all lists in a value."""
    if isinstance(value, (list, tuple)):
        for item in value:
            spoil(item)
    if isinstance(value, list):
        value.append(None)
        value.reverse()


def public_in(module):
    """The functions and classes that a module defines and the interface lists."""
    from test_interface import CLASSES, FUNCTIONS
    name = module.__name__.split(".")[1]
    return [getattr(module, one) for one in list(FUNCTIONS.get(name, {})) + list(CLASSES.get(name, {}))]


class TestCalls(Case):
    def test_each_function_class_and_method_is_called_here(self):
        called = [call for call, _ in CALLS]
        for module in (books, runs, lots, numbers, rows, lacks, tables, live, texts, library):
            for one in public_in(module):
                self.assertIn(one, called)
                if isinstance(one, type):
                    for name, method in vars(one).items():
                        if not name.startswith("_"):
                            self.assertIn(method, called)

    def test_by_position_and_by_name(self):
        for call, arguments in CALLS:
            names = list(inspect.signature(call).parameters)
            first, *rest = arguments() or [None]
            own = names[0] == "self" if names else False
            by_name = call(first, **dict(zip(names[1:], rest))) if own else call(**dict(zip(names, arguments())))
            self.same(told(by_name), told(call(*arguments())))

    def test_what_is_returned(self):
        for call, arguments in CALLS:
            given = arguments()
            value = call(*given)
            self.made_of_plain_kinds(value)
            self.no_list_twice([value, call(*arguments()), given])

    def test_arguments_are_not_changed(self):
        for call, arguments in CALLS:
            given = arguments()
            call(*given)
            if call in STEPS:
                self.assertIsNone(call(*arguments()))
                self.same(told(given[1:]), told(arguments()[1:]))
            else:
                self.same(told(given), told(arguments()))

    def test_what_the_caller_changes_later_has_no_effect(self):
        for call, arguments in CALLS:
            given = arguments()
            value = call(*given)
            before = told(given[0]) if given and isinstance(given[0], (Book, Live, Library)) else told(value)
            spoil(given[1:])
            if call is Book:
                spoil(given[0])
                self.same(told(value), before)
            else:
                spoil(value)
                if given and isinstance(given[0], (Book, Live, Library)):
                    self.same(told(given[0]), before)
            self.same(told(call(*arguments())), told(call(*arguments())))

    def test_equal_calls_tell_the_same_whatever_lies_between(self):
        chance = random.Random(SEED)
        first = [told(call(*arguments())) for call, arguments in CALLS]
        objects = [arguments() for _, arguments in CALLS]
        order = list(range(len(CALLS))) * 4
        chance.shuffle(order)
        for at in order:
            call, arguments = CALLS[at]
            self.same(told(call(*arguments())), first[at])
            if call not in STEPS:
                # The very same objects, too.
                self.same(told(call(*objects[at])), first[at])

    def test_equal_objects_that_came_to_be_in_other_ways(self):
        other = shelf()
        other.drop("mend")
        other.change("asks", mend_book([]))
        other.change("asks", mend_book(["ask"]))
        other.put("mend", texts.read_book(texts.text_of(mend_book())))
        self.assertTrue(other == shelf())
        for call, *arguments in ((Library.names,), (Library.alike, mend_book()), (Library.bearing, ["ask"]), (len,), (list,)):
            self.same(told(call(other, *arguments)), told(call(shelf(), *arguments)))
        twice = led_on()
        twice.add(DEEDS[0])
        twice.back()
        twice.leave(("hearing", 4))
        twice.hear(("has", "ask", "has"))
        self.assertTrue(twice == led_on())
        for call, *arguments in ((Live.shown,), (Live.least_number, GOAL), (Live.lasting, ["has"])):
            self.same(told(call(twice, *arguments)), told(call(led_on(), *arguments)))


class TestRefusals(Case):
    def test_any_value_is_refused_with_an_error_of_the_package(self):
        deep = nested(30)
        wrong = any_values() + [deep, (deep, deep), {"a": deep}, [mend_book(), {"b": (led_on(), shelf())}]]
        for call, arguments in CALLS:
            many = len(arguments())
            own = 1 if many and list(inspect.signature(call).parameters)[0] == "self" else 0
            for at in range(own, many):
                for value in wrong:
                    given = arguments()
                    given[at] = value
                    before = told(given[0]) if own else None
                    try:
                        call(*given)
                    except errors.HushError as caught:
                        if own:
                            self.same(told(given[0]), before)
                        fields = list(vars(caught).values())
                        self.assertEqual(len(fields), 1)
                        items = value if isinstance(value, list) else []
                        self.assertTrue(any(fields[0] is one for one in [value] + items), (call, value))

    def test_the_first_wrong_argument_is_told(self):
        for call, arguments in CALLS:
            parameters = list(inspect.signature(call).parameters)
            if parameters[:1] in (["book"], ["houses"]):
                value = object()
                with self.assertRaises(errors.HushError) as caught:
                    call(value, *[None for _ in parameters[1:]])
                self.assertIs(caught.exception.value, value)

    def test_lists_of_errors_are_the_callers_own(self):
        full = Live(Book(["idle"], ["lacks"], [("lacks", None, "lacks")] * 10, [], []))
        for _ in range(2):
            with self.assertRaises(errors.InvalidList) as caught:
                full.add(("lacks", None, "lacks"))
            self.assertEqual(len(caught.exception.value), 10)
            caught.exception.value.clear()
        self.assertEqual(len(full.shown().deeds()), 10)


if __name__ == "__main__":
    unittest.main()
