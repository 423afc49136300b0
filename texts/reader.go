package texts

import (
	"strings"

	"pinset/api"
	"pinset/names"
)

// The first words of lines.
const (
	wordModule  = "module"
	wordRequire = "require"
	wordExclude = "exclude"
	wordReplace = "replace"
	wordVersion = "version"
)

const arrow = "=>"

// nowhere is the byte at which a slip is that does not apply.
const nowhere = -1

// shape is what must stand behind a first word: for each place the slip of a word that does not fit there.
type shape []int

// statement is what a line without a slip says; what such a line does not name is empty.
type statement struct {
	first, path, version, by string
}

// claim is what may be said once in a text.
type claim struct {
	first, path, version string
}

func (s statement) claim() claim {
	if s.first == wordRequire {
		return claim{first: s.first, path: s.path}
	}
	return claim{s.first, s.path, s.version}
}

// reader is a kind of text, and what was read of one.
type reader struct {
	shapeOf    func(first string) (shape, bool)
	opening    string // the first word of the first line that says something, and of no other; empty: any
	spoken     int    // lines that say something, with slips or without
	requires   int
	said       map[claim]int // in which line
	statements []statement
}

// read tells what the lines of a text say, or, if there are some, its slips.
func (r *reader) read(text string) ([]statement, []api.Slip) {
	if len(text) > api.MaxText {
		return nil, []api.Slip{{Kind: api.SlipLong}}
	}
	r.said = map[claim]int{}
	var slips []api.Slip
lines:
	for i, line := range strings.Split(text, "\n") {
		words := wordsOf(line)
		if len(words) == 0 {
			continue
		}
		r.spoken++
		// The kinds' numbers rise in the order in which a line is asked for its slip.
		for kind := api.SlipModule; kind <= api.SlipMany; kind++ {
			if at := r.slipAt(kind, words); at != nowhere {
				slips = append(slips, api.Slip{Line: i + 1, At: at, Kind: kind})
				continue lines
			}
		}
		r.take(i+1, words)
	}
	if r.opening != "" && r.spoken == 0 {
		slips = append(slips, api.Slip{Kind: api.SlipModule})
	}
	if len(slips) > 0 {
		return nil, slips
	}
	return r.statements, nil
}

// slipAt tells where the words of a line have a slip of this kind, if they have none of a lower one.
func (r *reader) slipAt(kind int, words []word) int {
	first := words[0]
	places, known := r.shapeOf(first.text)
	applies := false
	switch kind {
	case api.SlipModule:
		applies = r.opening != "" && (first.text == r.opening) != (r.spoken == 1)
	case api.SlipWord:
		applies = !known
	case api.SlipCount:
		return miscount(places, words)
	case api.SlipPath, api.SlipVersion, api.SlipArrow:
		return misfit(kind, places, words[1:])
	case api.SlipTwice:
		_, applies = r.said[statementOf(places, words).claim()]
	case api.SlipMany:
		applies = first.text == wordRequire && r.requires == api.MaxRequires
	}
	if applies {
		return first.at
	}
	return nowhere
}

// miscount is where there is a word too many, or where one is missing.
func miscount(places shape, words []word) int {
	count := 1 + len(places)
	if len(words) > count {
		return words[count].at
	}
	if len(words) < count {
		return words[len(words)-1].end()
	}
	return nowhere
}

// misfit is where the first word is that does not fit into a place of this kind.
func misfit(kind int, places shape, words []word) int {
	for i, place := range places {
		if place == kind && !fits(kind, words[i].text) {
			return words[i].at
		}
	}
	return nowhere
}

func fits(kind int, text string) bool {
	switch kind {
	case api.SlipPath:
		return names.IsPath(text)
	case api.SlipVersion:
		_, ok := names.ParseVersion(text)
		return ok
	}
	return text == arrow
}

// take keeps what a line without a slip says.
func (r *reader) take(line int, words []word) {
	places, _ := r.shapeOf(words[0].text)
	s := statementOf(places, words)
	r.statements = append(r.statements, s)
	r.said[s.claim()] = line
	if s.first == wordRequire {
		r.requires++
	}
}

func statementOf(places shape, words []word) statement {
	s := statement{first: words[0].text}
	for i, place := range places {
		text := words[1+i].text
		switch {
		case place == api.SlipPath:
			s.path = text
		case place == api.SlipVersion && s.version == "":
			s.version = text
		case place == api.SlipVersion:
			s.by = text
		}
	}
	return s
}
