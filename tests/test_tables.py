"""Forms told by numbers, and the words that are new among them: what the rest of the package counts on."""

import unittest

from openroads.atoms import is_word
from openroads.letters import Letter
from openroads.merging import Merger
from openroads.seeking import new_words, word_with
from openroads.tables import Stock, formed

read = Letter.read


def stock_with(*texts):
    stock = Stock()
    return stock, [stock.put(read(text).form()) for text in texts]


class Stocks(unittest.TestCase):

    def test_equal_forms_have_one_number(self):
        stock, (one, other, third) = stock_with("pair(mark(?x), ?y)", "mark(?x)", "pair(mark(?x), ?y)")
        self.assertEqual(one, third)
        self.assertEqual(len(stock.lines), 4)
        self.assertEqual(formed(stock.lines)[one], read("pair(mark(?x), ?y)").form())
        self.assertIn(other, stock.lines[one])

    def test_unknowns(self):
        stock, (one, other, third) = stock_with("pair(mark(?x), ?y)", "mark(?x)", "seal(a, K)")
        x, y = stock.put(("unknown", "x")), stock.put(("unknown", "y"))
        self.assertEqual(sorted(stock.open_ends), sorted([x, y]))
        self.assertEqual(stock.masks[one], stock.masks[x] | stock.masks[y])
        self.assertEqual(stock.masks[other], stock.masks[x])
        self.assertEqual(stock.masks[third], 0)
        self.assertNotEqual(stock.masks[x] & stock.masks[other], 0)
        self.assertEqual(stock.masks[x] & stock.masks[y], 0)

    def test_within(self):
        stock, (one, ) = stock_with("pair(seal(?x, K), pair(K, mark(seal(?x, K))))")
        found = stock.within(one)
        forms = formed(stock.lines)
        self.assertEqual(found, sorted(found))
        self.assertEqual(sorted(Letter.of(forms[number]).written() for number in found), sorted([
            "?x", "K", "seal(?x, K)", "mark(seal(?x, K))", "pair(K, mark(seal(?x, K)))",
            "pair(seal(?x, K), pair(K, mark(seal(?x, K))))"]))

    def test_replaced(self):
        stock, (one, other, x, y, a, b) = stock_with("seal(pair(?x, ?y), mark(?x))", "mark(K)", "?x", "?y", "a", "own(?y)")
        for changes, expected in (({x: a}, "seal(pair(a, ?y), mark(a))"), ({y: a}, "seal(pair(?x, a), mark(?x))"),
                                  ({x: b}, "seal(pair(own(?y), ?y), mark(own(?y)))"), ({}, "seal(pair(?x, ?y), mark(?x))"),
                                  ({x: a, y: other}, "seal(pair(a, mark(K)), mark(a))")):
            found = stock.replaced([one, other, x], changes)
            forms = formed(stock.lines)
            self.assertEqual(Letter.of(forms[found[0]]).written(), expected)
            self.assertEqual(found[1:], [other, changes.get(x, x)])

    def test_deep_and_doubled(self):
        stock = Stock()
        number = stock.put(("unknown", "x"))
        for turn in range(2000):
            number = stock.noted(("pair", number, number))
        self.assertEqual(len(stock.within(number)), 2001)
        other = stock.replaced([number], {stock.open_ends[0]: stock.put(("word", "a"))})[0]
        merger = Merger(stock)
        self.assertTrue(merger.merge(number, other))
        self.assertEqual(merger.changes(), {stock.open_ends[0]: stock.put(("word", "a"))})


class NewWords(unittest.TestCase):

    def test_each_number_has_another_word(self):
        words = [word_with(number) for number in range(30000)]
        self.assertEqual(len(set(words)), 30000)
        self.assertTrue(all(is_word(word) for word in words))

    def test_they_stand_nowhere(self):
        stock, numbers = stock_with("pair(a, pair(b, d))", "c")
        before = set(range(len(stock.lines)))
        found = new_words(stock, 40)
        self.assertEqual(len(set(found)), 40)
        self.assertEqual(set(found) & before, set())
        self.assertTrue(all(stock.lines[number][0] == "word" for number in found))


if __name__ == "__main__":
    unittest.main()
