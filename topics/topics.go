// Package topics reads topics and filters.
package topics

import "herald/api"

const (
	anyWord  = "+"
	allWords = "#"
)

// IsTopic tells whether a text is a topic.
func IsTopic(text string) bool {
	return isPath(text, false)
}

// IsFilter tells whether a text is a filter.
func IsFilter(text string) bool {
	return isPath(text, true)
}

// Fits tells whether a filter fits a topic. What it tells of other texts means nothing.
func Fits(filter string, topic string) bool {
	asked := words(filter)
	given := words(topic)
	for i := 0; i < len(asked); i++ {
		// Ahead of the test for an end of the topic: it fits no words, too.
		if asked[i] == allWords {
			return true
		}
		if i >= len(given) {
			return false
		}
		if asked[i] != anyWord && asked[i] != given[i] {
			return false
		}
	}
	return len(asked) == len(given)
}

// words cuts a text at each slash. There is always one word at least, though it may be empty.
func words(text string) []string {
	var list []string
	start := 0
	for i := 0; i < len(text); i++ {
		if text[i] == '/' {
			list = append(list, text[start:i])
			start = i + 1
		}
	}
	return append(list, text[start:])
}

// isPath tells whether a text is a topic or, if it may be wild, a filter.
func isPath(text string, mayBeWild bool) bool {
	// Tested first, so that a text of great length is not read at all.
	if len(text) > api.MaxText {
		return false
	}
	list := words(text)
	if len(list) > api.MaxLevels {
		return false
	}
	for i := 0; i < len(list); i++ {
		isLast := i == len(list)-1
		fine := isWord(list[i])
		if mayBeWild && isWild(list[i], isLast) {
			fine = true
		}
		if !fine {
			return false
		}
	}
	return true
}

func isWord(word string) bool {
	if len(word) < 1 || len(word) > api.MaxWord {
		return false
	}
	for i := 0; i < len(word); i++ {
		if word[i] < 'a' || word[i] > 'z' {
			return false
		}
	}
	return true
}

// isWild tells whether a word stands in a filter for other words.
func isWild(word string, isLast bool) bool {
	return word == anyWord || (word == allWords && isLast)
}
