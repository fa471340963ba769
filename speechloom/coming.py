"""Half said: what may come behind the first words of a sentence."""

from speechloom.ahead import Ahead
from speechloom.fewest import fewest_words
from speechloom.gathering import unlike
from speechloom.trees import is_sentence, words_of
from speechloom.words import kept_forms, word_symbol


def begins(tongue, words):
    """Whether some sentence begins with these words, or is just them."""
    ahead = Ahead(tongue, words)
    return ahead.is_sentence_yet() or ahead.sentences() != []


def coming(tongue, words):
    """The rising list of the words that may come next, and whether these words are a sentence already."""
    ahead = Ahead(tongue, words)
    symbols = ahead.next_symbols()
    texts = [text for text, stem, ending in kept_forms(tongue) if word_symbol(tongue, stem, ending) in symbols]
    return (unlike(texts), ahead.is_sentence_yet())


def fewest_more(tongue, words):
    """The least number of words that make a sentence behind these, and a list of so many; None where none do."""
    ahead = Ahead(tongue, words)
    return (0, []) if ahead.is_sentence_yet() else fewest_words(ahead)


def shows_coming(tongue, words, word, tree):
    """Whether the tree is a sentence whose words begin with these and then the word; None: that has just these."""
    if not is_sentence(tongue, tree):
        return False
    heard = words_of(tongue, tree)
    if word is None:
        return heard == list(words)
    return heard[:len(words) + 1] == [*words, word]
