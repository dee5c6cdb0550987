"""Points [70] to [75]: a watch that is changed and asked, and whose changes are taken back."""

import random
import unittest

from knownlate.errors import BadWatch, BadWord, KnowError, NoFault, NothingDone, TooMany
from knownlate.late import late
from knownlate.post import Post, Trial
from knownlate.watches import Watch, all_seen, seeing
from tests import naive
from tests.cases import Case
from tests.samples import clock, deep_dict, deep_list, deep_tuple, no_faults, no_watches, odd_objects, odd_rows
from tests.samples import own_list, tank
from tests.test_late import SMOKE
from tests.test_least import unseen_ring


class Stop(Exception):
    """An error that is none of the program."""


class PostCase(Case):
    def is_at(self, post, sights):
        """The watch of the post has just these sights."""
        self.assertIs(post.watch.__class__, Watch)
        self.assertEqual(post.watch, Watch(sights))
        for each in ("fill", "leak", "drip", "alarm", "smoke", "bang", "other"):
            self.assertEqual(post[each], sights.get(each))

    def is_done(self, post, many):
        """Just so many changes can be taken back; they are."""
        for _ in range(many):
            self.assertIsNone(post.undo())
        self.nothing_done(post)

    def nothing_done(self, post):
        with self.assertRaises(NothingDone) as caught:
            post.undo()
        self.assertIs(caught.exception.__class__, NothingDone)


class Changing(PostCase):
    def test_the_example(self):
        post = Post(SMOKE)
        post["smoke"] = "smoke"
        self.assertEqual(post.late("broken"), 1)
        self.assertEqual(post.tried([("bang", "x"), ("bang", None), ("smoke", None)], "broken"), [0, 1, None])
        self.assertEqual(post.watch, seeing(["smoke"]))
        self.assertIsNone(post.undo())
        self.assertEqual(post.watch, Watch())
        self.nothing_done(post)

    def test_a_new_post(self):
        self.is_at(Post(tank()), {})
        self.is_at(Post(machine=tank()), {})
        self.nothing_done(Post(tank()))
        one, other = Post(tank()), Post(tank())
        one["fill"] = "x"
        self.is_at(other, {})

    def test_words(self):
        post = Post(tank())
        post["fill"] = "up"
        post["other"] = "abcdefghijkl"
        post["leak"] = "up"
        self.is_at(post, {"fill": "up", "other": "abcdefghijkl", "leak": "up"})
        post["fill"] = "down"
        post["leak"] = None
        self.is_at(post, {"fill": "down", "other": "abcdefghijkl"})
        self.is_done(post, 5)
        self.is_at(post, {})

    def test_taken_back_one_by_one(self):
        post = Post(tank())
        post["fill"] = "up"
        post["fill"] = "down"
        post["drip"] = "wet"
        post["fill"] = None
        for sights in ({"fill": "down", "drip": "wet"}, {"fill": "down"}, {"fill": "up"}, {}):
            post.undo()
            self.is_at(post, sights)
        self.nothing_done(post)
        self.is_at(post, {})

    def test_changes_that_leave_the_watch_as_it_was(self):
        post = Post(tank())
        post["fill"] = None
        post["fill"] = "up"
        post["fill"] = "up"
        post.watch = Watch({"fill": "up"})
        post.follow(post.watch)
        for _ in range(4):
            self.is_at(post, {"fill": "up"})
            post.undo()
        self.is_at(post, {})
        post.undo()
        self.is_at(post, {})
        self.nothing_done(post)

    def test_wrong_words(self):
        post = Post(tank())
        post["fill"] = "up"
        for value in odd_objects() + odd_rows() + [None, 0, tank(), Watch(), deep_tuple(), slice(1, 2)]:
            self.refuse(BadWord, "value", value, lambda: post[value])
            self.refuse(BadWord, "value", value, lambda: post.__setitem__(value, "up"))
            self.refuse(BadWord, "value", value, lambda: post.__setitem__(value, None))
            self.refuse(BadWord, "value", value, lambda: post.__setitem__(value, 5))
            if value is not None:
                self.refuse(BadWord, "value", value, lambda: post.__setitem__("fill", value))
                self.refuse(BadWord, "value", value, lambda: post.__setitem__("other", value))
        self.is_at(post, {"fill": "up"})
        self.is_done(post, 1)

    def test_no_iteration(self):
        post = Post(tank())
        post["fill"] = "up"
        for work in (iter, list, tuple, set, sorted, dict, lambda value: [*value], lambda value: "fill" in value,
                     lambda value: [each for each in value], reversed):
            with self.assertRaises(TypeError):
                work(post)


class Following(PostCase):
    def test_the_watch_is_copied(self):
        post, given = Post(tank()), Watch({"fill": "up"})
        post.watch = given
        given["drip"] = "wet"
        self.is_at(post, {"fill": "up"})
        taken = post.watch
        taken["fill"] = None
        taken |= {"leak": "x"}
        self.is_at(post, {"fill": "up"})
        self.assertIsNot(post.watch, post.watch)
        self.assertIsNone(post.follow(given))
        given["fill"] = None
        self.is_at(post, {"fill": "up", "drip": "wet"})
        post["fill"] = "down"
        self.assertEqual([given, taken], [Watch({"drip": "wet"}), Watch({"leak": "x"})])
        self.assertIsNone(post.follow(watch=Watch()))
        self.is_at(post, {})
        self.is_done(post, 4)

    def test_changes_around_it(self):
        post = Post(tank())
        post["fill"] = "up"
        post.watch = all_seen(tank())
        post["fill"] = "down"
        post.follow(Watch({"other": "x"}))
        post["other"] = None
        for sights in ({"other": "x"}, {"fill": "down", "drip": "drip", "alarm": "alarm"},
                       {"fill": "fill", "drip": "drip", "alarm": "alarm"}, {"fill": "up"}, {}):
            post.undo()
            self.is_at(post, sights)
        self.nothing_done(post)

    def test_operators_on_the_watch(self):
        post = Post(tank())
        post.watch |= {"fill": "up", "drip": "wet"}
        post.watch -= ["drip"]
        self.is_at(post, {"fill": "up"})
        self.is_done(post, 2)

    def test_its_own_watch(self):
        post = Post(tank())
        post["fill"] = "up"
        kept = post.watch
        post.follow(kept)
        post["fill"] = "down"
        self.assertEqual(kept, Watch({"fill": "up"}))
        post.undo()
        self.is_at(post, {"fill": "up"})

    def test_no_watches(self):
        post = Post(tank())
        post["fill"] = "up"
        for value in no_watches() + [{"fill": "up"}, Post(tank()), post]:
            self.refuse(BadWatch, "value", value, post.follow, value)
            self.refuse(BadWatch, "value", value, setattr, post, "watch", value)
        self.is_at(post, {"fill": "up"})
        self.is_done(post, 1)


class Late(PostCase):
    def test_late(self):
        post = Post(tank())
        self.assertIsNone(post.late("hole"))
        post.follow(all_seen(tank()))
        self.assertEqual(post.late("hole"), 2)
        self.assertEqual(post.late(fault="hole"), 2)
        post["leak"] = "x"
        self.assertEqual(post.late("hole"), 0)
        self.is_at(post, {"fill": "fill", "drip": "drip", "alarm": "alarm", "leak": "x"})
        self.is_done(post, 2)

    def test_errors(self):
        post = Post(tank())
        for value in no_faults():
            self.refuse(NoFault, "name", value, post.late, value)
        self.refuse(NoFault, "name", "hole", Post(clock()).late, "hole")
        self.nothing_done(post)
        many = Post(unseen_ring(50, 1))
        self.refuse(TooMany, "limit", 5000, many.late, "hole")
        many["bad"] = "x"
        self.assertEqual(many.late("hole"), 0)
        self.assertIsNone(Post(unseen_ring(50, 0)).late("hole"))

    def test_many_machines(self):
        source = random.Random(61)
        for _ in range(100):
            made = naive.random_machine(source)
            post = Post(made)
            for _ in range(6):
                post[source.choice("abcdepq")] = source.choice(("x", "y", None))
                fault = source.choice(made.fault_names)
                self.assertEqual(post.late(fault), naive.late(made, [post.watch], fault, 30))


class Trials(PostCase):
    def test_a_block(self):
        post = Post(tank())
        post["fill"] = "up"
        with post.trial() as inner:
            self.assertIs(inner, post)
            self.is_at(post, {"fill": "up"})
            self.nothing_done(post)
            post["fill"] = "down"
            post["drip"] = "wet"
            post.watch = Watch({"leak": "x"})
            self.is_at(post, {"leak": "x"})
        self.is_at(post, {"fill": "up"})
        self.is_done(post, 1)

    def test_a_new_object_each_time(self):
        post = Post(tank())
        one, other = post.trial(), post.trial()
        self.assertEqual([one.__class__, other.__class__], [Trial, Trial])
        self.assertIsNot(one, other)
        # The block begins where it is entered, not where its object was made.
        post["fill"] = "up"
        with one:
            post["fill"] = None
        self.is_at(post, {"fill": "up"})
        with Trial(post) as inner:
            inner["fill"] = None
        self.is_at(post, {"fill": "up"})
        self.is_done(post, 1)

    def test_undo_in_a_block(self):
        post = Post(tank())
        post["fill"] = "up"
        post["drip"] = "wet"
        with post.trial():
            self.nothing_done(post)
            post["drip"] = None
            post.follow(Watch())
            post.undo()
            self.is_at(post, {"fill": "up"})
            post.undo()
            self.is_at(post, {"fill": "up", "drip": "wet"})
            self.nothing_done(post)
            post["alarm"] = "x"
        self.is_at(post, {"fill": "up", "drip": "wet"})
        post.undo()
        self.is_at(post, {"fill": "up"})
        self.is_done(post, 1)

    def test_nested_blocks(self):
        post = Post(tank())
        post["fill"] = "a"
        with post.trial():
            post["fill"] = "b"
            with post.trial() as inner:
                inner["fill"] = "c"
                with post.trial(), post.trial():
                    post["fill"] = "d"
                    post["drip"] = "d"
                self.is_at(post, {"fill": "c"})
                self.is_done(post, 1)
                self.is_at(post, {"fill": "b"})
                post.follow(Watch())
            self.is_at(post, {"fill": "b"})
            # The changes of the inner block are no changes of this one.
            self.is_done(post, 1)
            self.is_at(post, {"fill": "a"})
            post["fill"] = "e"
        self.is_at(post, {"fill": "a"})
        self.is_done(post, 1)
        self.is_at(post, {})

    def test_fifty_nested_blocks(self):
        post = Post(tank())

        def deeper(left):
            with post.trial():
                post["fill"] = "abcdefghijkl"[:1 + left % 12]
                if left > 0:
                    deeper(left - 1)
                self.is_at(post, {"fill": "abcdefghijkl"[:1 + left % 12]})

        deeper(50)
        self.is_at(post, {})
        self.nothing_done(post)

    def test_errors_leave_the_block(self):
        post = Post(tank())
        post["fill"] = "up"
        for error in (Stop("no"), KeyboardInterrupt(), BadWord(5), StopIteration(), GeneratorExit()):
            with self.assertRaises(error.__class__) as caught:
                with post.trial():
                    with post.trial() as inner:
                        inner["fill"] = None
                        inner.follow(all_seen(tank()))
                        raise error
            self.assertIs(caught.exception, error)
            self.is_at(post, {"fill": "up"})
        with post.trial():
            post["drip"] = "wet"
            with self.assertRaises(Stop):
                with post.trial():
                    post["drip"] = None
                    raise Stop
            self.is_at(post, {"fill": "up", "drip": "wet"})
            self.is_done(post, 1)
        self.is_done(post, 1)

    def test_errors_of_the_post_in_a_block(self):
        post = Post(tank())
        for work in (lambda: post.undo(), lambda: post.__setitem__(5, "x"), lambda: post.follow(5),
                     lambda: post.late("nope"), lambda: post["A"]):
            with self.assertRaises(KnowError):
                with post.trial():
                    post["fill"] = "up"
                    post.undo()
                    post["drip"] = "x"
                    post.undo()
                    work()
            self.is_at(post, {})
        self.nothing_done(post)

    def test_leaving_a_block_by_return_and_break(self):
        post = Post(tank())

        def work():
            with post.trial():
                post["fill"] = "up"
                return post.watch

        self.assertEqual(work(), Watch({"fill": "up"}))
        for _ in range(3):
            with post.trial():
                post["fill"] = "up"
                break
        self.is_at(post, {})
        self.nothing_done(post)


class Rehearsing(PostCase):
    def test_what_the_work_returns(self):
        post = Post(tank())
        post["fill"] = "up"
        value = [object()]

        def work(inner):
            self.assertIs(inner, post)
            self.nothing_done(post)
            inner["leak"] = "x"
            self.assertEqual(inner.late("hole"), 0)
            return value

        self.assertIs(post.rehearse(work), value)
        self.assertIs(post.rehearse(work=lambda inner: None), None)
        self.is_at(post, {"fill": "up"})
        self.is_done(post, 1)

    def test_all_methods_in_the_work(self):
        post = Post(tank())
        post.follow(all_seen(tank()))

        def work(inner):
            inner["fill"] = None
            inner.undo()
            inner.watch = inner.watch | {"leak": "x"}
            inner.follow(inner.watch - ["drip"])
            found = [inner["leak"], inner.late("hole"), inner.tried([("leak", None)], "hole")]
            found.append(inner.rehearse(lambda it: it.follow(Watch())))
            with inner.trial():
                inner.follow(Watch())
                found.append(inner.late("hole"))
            return found + [inner.watch.words]

        expected = ["x", 0, [2], None, None, ["alarm", "fill", "leak"]]
        self.assertEqual(late(tank(), [seeing(["alarm", "fill"])], "hole"), 2)
        self.assertEqual(post.rehearse(work), expected)
        self.assertEqual(post.rehearse(lambda it: it.rehearse(work)), expected)
        self.assertEqual(post.watch, all_seen(tank()))
        self.is_done(post, 1)

    def test_rehearsals_in_rehearsals(self):
        post = Post(tank())
        post.follow(all_seen(tank()))

        def work(inner):
            inner["leak"] = "x"
            return [inner.late("hole"), inner.rehearse(lambda it: (it.follow(Watch()), it.late("hole"))),
                    inner.tried([("leak", None), ("alarm", None)], "hole"), inner.late("hole")]

        expected = [0, (None, None), [2, late(tank(), [seeing(["fill", "drip"])], "hole")], 0]
        self.assertEqual(post.rehearse(work), expected)
        self.assertEqual(post.rehearse(lambda it: it.rehearse(work)), expected)
        self.assertEqual(post.watch, all_seen(tank()))
        self.is_done(post, 1)

    def test_errors_of_the_work(self):
        post = Post(tank())
        post["fill"] = "up"
        for error in (Stop("no"), NothingDone(), ValueError(5), KeyboardInterrupt()):
            def work(inner):
                inner["fill"] = None
                inner.follow(Watch({"drip": "x"}))
                raise error

            with self.assertRaises(error.__class__) as caught:
                post.rehearse(work)
            self.assertIs(caught.exception, error)
            self.is_at(post, {"fill": "up"})
        with self.assertRaises(NothingDone):
            post.rehearse(lambda inner: inner.undo())
        self.is_at(post, {"fill": "up"})
        self.is_done(post, 1)


class Tried(PostCase):
    def test_values(self):
        post = Post(tank())
        post.follow(all_seen(tank()))
        changes = [("leak", "x"), ("leak", None), ("alarm", None), ("other", "q"), ("leak", "fill"), ("drip", "drip")]
        expected, watch = [], all_seen(tank())
        for each, sight in changes:
            watch[each] = sight
            expected.append(late(tank(), [watch], "hole"))
        self.assertEqual(expected[:2], [0, 2])
        self.assertEqual(post.tried(changes, "hole"), expected)
        self.assertEqual(post.tried(tuple(changes), fault="hole"), expected)
        self.assertEqual(post.watch, all_seen(tank()))
        self.assertEqual(len(changes), 6)
        self.is_done(post, 1)

    def test_no_changes(self):
        for changes in ([], ()):
            found = Post(tank()).tried(changes, "hole")
            self.assertEqual([found, found.__class__], [[], list])

    def test_in_a_block(self):
        post = Post(SMOKE)
        with post.trial():
            post["smoke"] = "x"
            self.assertEqual(post.tried([("bang", "y"), ("smoke", None)], "broken"), [0, 0])
            self.is_at(post, {"smoke": "x"})
            self.is_done(post, 1)
        self.is_at(post, {})

    def test_the_fault_comes_first(self):
        post = Post(tank())
        post["fill"] = "up"
        for value in no_faults():
            for changes in ([], 5, [5], [("fill", 5)], [("fill", None)]):
                self.refuse(NoFault, "name", value, post.tried, changes, value)
        self.is_at(post, {"fill": "up"})
        self.is_done(post, 1)

    def test_changes_that_are_no_row(self):
        post = Post(tank())
        for value in odd_objects() + [None, 0, "fill", {"fill": "up"}, {}, tank(), Watch(), deep_dict(), post]:
            self.refuse(BadWord, "value", value, post.tried, value, "hole")
        self.nothing_done(post)

    def test_items_that_are_no_pairs(self):
        post = Post(tank())
        post["fill"] = "up"
        for value in odd_objects() + odd_rows() + [None, 0, "ab", ["fill", "up"], ("fill",), ("fill", "up", "up"),
                                                   {"fill": "up", "a": "b"}, own_list(), deep_list(), tank()]:
            for changes in ([value], (("fill", None), value), [("drip", "x"), ("leak", None), value, 5]):
                self.refuse(BadWord, "value", value, post.tried, changes, "hole")
                self.is_at(post, {"fill": "up"})
        self.is_done(post, 1)

    def test_words_and_sights_that_are_no_names(self):
        post = Post(tank())
        post["fill"] = "up"
        for value in odd_objects() + odd_rows() + [None, 0, tank(), deep_tuple(), ("fill",)]:
            for other in ("up", None, 5):
                self.refuse(BadWord, "value", value, post.tried, [("fill", None), (value, other), 5], "hole")
            if value is not None:
                self.refuse(BadWord, "value", value, post.tried, [("fill", None), ("drip", value), (5, 5)], "hole")
            self.is_at(post, {"fill": "up"})
        self.is_done(post, 1)

    def test_the_items_are_taken_in_order(self):
        post = Post(unseen_ring(50, 1))
        post["bad"] = "x"
        self.assertEqual(post.tried([("u", "x"), ("bad", "y")], "hole"), [None, 0])
        self.refuse(TooMany, "limit", 5000, post.tried, [("bad", None), 5], "hole")
        self.refuse(TooMany, "limit", 5000, post.tried, [("bad", None), ("A", 5)], "hole")
        self.refuse(BadWord, "value", 5, post.tried, [("bad", "y"), 5, ("bad", None)], "hole")
        self.refuse(BadWord, "value", "A", post.tried, [("A", None), ("bad", None)], "hole")
        self.assertEqual(post.watch, Watch({"bad": "x"}))
        self.is_done(post, 1)


class ManyChanges(PostCase):
    """Posts beside a slow model: the sights, and for each block the list of the sights before its changes."""

    def same_as(self, post, model):
        self.assertEqual(post.watch, Watch(model[0]))

    def change(self, post, model, source):
        before = dict(model[0])
        if source.random() < 0.7:
            each, sight = source.choice("abcdpq"), source.choice(("x", "y", "z", None))
            post[each] = sight
            model[0].pop(each, None)
            if sight is not None:
                model[0][each] = sight
        else:
            sights = {each: source.choice("xyz") for each in "abcdpq" if source.random() < 0.5}
            if source.random() < 0.5:
                post.watch = Watch(sights)
            else:
                self.assertIsNone(post.follow(Watch(sights)))
            model[0] = sights
        model[1].append(before)

    def undo(self, post, model):
        if model[1]:
            post.undo()
            model[0] = model[1].pop()
        else:
            self.nothing_done(post)

    def block(self, post, model, source, depth):
        inner = [dict(model[0]), []]

        def work(same):
            self.assertIs(same, post)
            self.live(post, inner, source, depth + 1)
            if source.random() < 0.3:
                raise Stop
            return 5

        try:
            if source.random() < 0.5:
                self.assertEqual(post.rehearse(work), 5)
            else:
                with post.trial() as same:
                    work(same)
        except Stop:
            pass

    def tried(self, post, model, source):
        fault = source.choice(self.machine.fault_names)
        changes = [(source.choice("abcdpq"), source.choice(("x", "y", None))) for _ in range(source.randrange(4))]
        expected, watch = [], Watch(model[0])
        for each, sight in changes:
            watch[each] = sight
            expected.append(late(self.machine, [watch], fault))
        self.assertEqual(post.tried(changes, fault), expected)
        with self.assertRaises(BadWord):
            post.tried(changes + [("a", 5)], fault)

    def live(self, post, model, source, depth):
        for _ in range(source.randrange(12)):
            chosen = source.random()
            if chosen < 0.5:
                self.change(post, model, source)
            elif chosen < 0.75:
                self.undo(post, model)
            elif chosen < 0.85:
                self.tried(post, model, source)
            elif depth < 4:
                self.block(post, model, source, depth)
            self.same_as(post, model)

    def test_many_changes(self):
        source = random.Random(62)
        for _ in range(150):
            self.machine = naive.random_machine(source, 3, 6)
            post, model = Post(self.machine), [{}, []]
            for _ in range(4):
                self.live(post, model, source, 0)
            while model[1]:
                self.undo(post, model)
                self.same_as(post, model)
            self.nothing_done(post)


if __name__ == "__main__":
    unittest.main()
