"""Words: unending rows of noughts and ones, told as a head and an again."""

from math import gcd

from clockloom.errors import NoPlace, NoWord, TooLong
from clockloom.things import is_signs, is_whole

MOST_SIGNS = 20000


def is_word(thing):
    """Whether a thing is a word."""
    if not isinstance(thing, tuple) or len(thing) != 2:
        return False
    head, again = thing
    if not is_signs(head) or not is_signs(again):
        return False
    return len(head) <= MOST_SIGNS and 1 <= len(again) <= MOST_SIGNS


def _check_word(word):
    if not is_word(word):
        raise NoWord("this is no word")


def _check_place(k):
    if not is_whole(k) or k < 0:
        raise NoPlace(k)


def _shortest_again(again):
    # A text turned by some of its signs is itself again just where it goes on by these.
    return again[:(again + again).find(again, 1)]


def _taken_in(head, again):
    """How many signs at the head's end stand in a row of agains as well."""
    row = again * (len(head) // len(again) + 1)
    low = 0
    high = len(head)
    while low < high:
        middle = (low + high + 1) // 2
        if head[len(head) - middle:] == row[len(row) - middle:]:
            low = middle
        else:
            high = middle - 1
    return low


def _least(head, again):
    again = _shortest_again(again)
    taken = _taken_in(head, again)
    cut = len(again) - taken % len(again)
    return (head[:len(head) - taken], again[cut:] + again[:cut])


def least_word(word):
    """The least word alike to one."""
    _check_word(word)
    return _least(word[0], word[1])


def letter(word, k):
    """Whether 1 stands at place k."""
    _check_word(word)
    _check_place(k)
    head, again = word
    if k < len(head):
        return head[k] == "1"
    return again[(k - len(head)) % len(again)] == "1"


def ones(word, k):
    """How many 1s stand at the first k places."""
    _check_word(word)
    _check_place(k)
    head, again = word
    if k <= len(head):
        return head[:k].count("1")
    rounds, left = divmod(k - len(head), len(again))
    return head.count("1") + rounds * again.count("1") + again[:left].count("1")


def _place_in(text, k):
    at = -1
    for _ in range(k + 1):
        at = text.find("1", at + 1)
    return at


def place_of(word, k):
    """The place of the 1 ahead of which k 1s stand."""
    _check_word(word)
    _check_place(k)
    head, again = word
    ahead = head.count("1")
    if k < ahead:
        return _place_in(head, k)
    each = again.count("1")
    if each == 0:
        raise NoPlace(k)
    rounds, left = divmod(k - ahead, each)
    return len(head) + rounds * len(again) + _place_in(again, left)


def first_signs(word, many):
    """The first signs of the row that a word tells, as a text."""
    head, again = word
    rounds = max(0, many - len(head)) // len(again) + 1
    return (head + again * rounds)[:many]


def _on_lengths(one, other):
    """How many signs the head and the again have that are made of the two."""
    head, again = one
    each = again.count("1")
    if each == 0:
        return (len(head), len(again))
    long = len(head)
    if other[0]:
        long = max(long, place_of(one, len(other[0]) - 1) + 1)
    rounds = len(other[1]) // gcd(len(other[1]), each)
    return (long, rounds * len(again))


def _laid_on(text, signs):
    """The text with these signs, in order, in the stead of its 1s."""
    gaps = text.split("1")
    return "".join([gap + sign for gap, sign in zip(gaps, signs)]) + gaps[-1]


def on(one, other, *, most=MOST_SIGNS):
    """The word that is the other one on the one."""
    _check_word(one)
    _check_word(other)
    if max(_on_lengths(one, other)) > most:
        raise TooLong("the word put on would be too long")
    # The lengths asked are those as handed in; the row itself is the same by least words.
    one = least_word(one)
    other = least_word(other)
    head, again = _on_lengths(one, other)
    text = first_signs(one, head + again)
    row = _laid_on(text, first_signs(other, text.count("1")))
    return _least(row[:head], row[head:])


def _turned(text):
    return text.translate({48: "1", 49: "0"})


def other_of(word):
    """The word that has 1 just where this one has 0."""
    _check_word(word)
    return _least(_turned(word[0]), _turned(word[1]))


def first_unlike(one, other):
    """The least place at which two words have unlike signs, None where they are alike."""
    _check_word(one)
    _check_word(other)
    # Two rows that go on by p signs and by q signs are alike where p + q signs of them are.
    many = max(len(one[0]), len(other[0])) + len(one[1]) + len(other[1])
    mine = first_signs(one, many)
    yours = first_signs(other, many)
    for k in range(many):
        if mine[k] != yours[k]:
            return k
    return None


def rate(word):
    """The 1s of the again and its signs, divided by what divides both."""
    _check_word(word)
    above = word[1].count("1")
    below = len(word[1])
    both = gcd(above, below)
    return (above // both, below // both)


def joined(text, word):
    """The word that has the signs of a text ahead of a word's."""
    if not is_signs(text) or len(text) > MOST_SIGNS:
        raise NoWord("this is no text of so many noughts and ones")
    _check_word(word)
    if len(text) + len(word[0]) > MOST_SIGNS:
        raise TooLong("the head would be too long")
    return _least(text + word[0], word[1])


class Word:
    """A word as an object, which stays as it is."""

    def __init__(self, again="1", *, head=""):
        self._head, self._again = least_word((head, again))

    def word(self):
        """The least word."""
        return (self._head, self._again)

    def has_one(self, k):
        """Whether 1 stands at place k."""
        return letter(self.word(), k)

    def on(self, other):
        """The Word of another one on this one."""
        head, again = on(self.word(), other.word())
        return Word(again, head=head)

    def other(self):
        """The Word that has 1 just where this one has 0."""
        head, again = other_of(self.word())
        return Word(again, head=head)

    def __eq__(self, other):
        return isinstance(other, Word) and self._head == other._head and self._again == other._again

    def __len__(self):
        return len(self._head + self._again)

    def __str__(self):
        return f"{self._head}({self._again})"

    def __repr__(self):
        return f'Word("{self._again}", head="{self._head}")'
