"""[22] what stands by a name: known values and later names."""

from foreknown.things import Known, Later, Thing, thing_of
from helping import Case, of, value

VALUES = (0, 1, -1, 10 ** 18 - 1, "a", "of", (), (1, ("a",)), {}, {"b": 1, "a": ()})


class ThingsTest(Case):
    def test_classes(self):
        self.assertTrue(issubclass(Known, Thing))
        self.assertTrue(issubclass(Later, Thing))
        self.assertFalse(issubclass(Known, Later))
        self.assertFalse(issubclass(Later, Known))

    def test_known(self):
        for known in VALUES:
            thing = Known(known)
            self.assertIsInstance(thing, Thing)
            self.assertNotIsInstance(thing, Later)
            self.assert_same(thing.value, known)
            self.assertIs(thing.ahead(), True)
            self.assert_same(thing.atom(), ("is", known))

    def test_later(self):
        for name in ("a", "x1", "abcdefgh", "is"):
            thing = Later(name)
            self.assertIsInstance(thing, Thing)
            self.assertNotIsInstance(thing, Known)
            self.assert_same(thing.name, name)
            self.assertIs(thing.ahead(), False)
            self.assert_same(thing.atom(), ("of", name))

    def test_things_are_apart(self):
        one, two, three, four = Known(1), Known(2), Later("a"), Later("b")
        self.assert_same([one.atom(), two.atom(), three.atom(), four.atom()],
                         [("is", 1), ("is", 2), ("of", "a"), ("of", "b")])
        self.assert_same([one.atom(), three.atom()], [("is", 1), ("of", "a")])


class ThingOfTest(Case):
    def test_of_a_value(self):
        for things in ({}, {"a": Later("b"), "b": Known(7)}):
            for known in VALUES:
                thing = thing_of(value(known), things)
                self.assertIsInstance(thing, Known)
                self.assert_same(thing.value, known)

    def test_of_a_name_what_stands_by_it(self):
        things = {"a": Known(5), "b": Later("b"), "c": Later("d"), "d": Known("a"), "is": Known(()), "of": Later("a")}
        for name, thing in list(things.items()):
            self.assertIs(thing_of(of(name), things), thing)

    def test_the_dict_stays(self):
        known, later = Known({"b": 1, "a": 2}), Later("x")
        things = {"a": known, "b": later}
        for atom in (of("a"), of("b"), value("a"), value("c"), value({"b": 1})):
            for _ in range(2):
                thing_of(atom, things)
            self.assertEqual(list(things), ["a", "b"])
            self.assertIs(things["a"], known)
            self.assertIs(things["b"], later)
            self.assert_same((known.value, later.name), ({"b": 1, "a": 2}, "x"))
