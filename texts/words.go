// Package texts reads the texts of manifests and of indexes, and writes manifests.
package texts

import "strings"

// word is a word of a line, and the byte of the line at which it begins.
type word struct {
	at   int
	text string
}

func (w word) end() int { return w.at + len(w.text) }

// wordsOf cuts a line into its words. Each is a copy: what is told of a text shares no memory with it.
func wordsOf(line string) []word {
	line, _, _ = strings.Cut(line, "#")
	var words []word
	from := 0
	for from < len(line) {
		if isBlank(line[from]) {
			from++
			continue
		}
		to := from + 1
		for to < len(line) && !isBlank(line[to]) {
			to++
		}
		words = append(words, word{from, strings.Clone(line[from:to])})
		from = to
	}
	return words
}

func isBlank(c byte) bool { return c == ' ' || c == '\t' }
