package pinset_test

import (
	"fmt"
	"regexp"
	"sort"
	"strconv"
	"strings"

	"pinset/api"
)

// The document's words once more, by other means than the program's: by patterns, and by keys whose bytes are in the versions' order.

var (
	pathPattern       = regexp.MustCompile(`^[a-z0-9]{1,8}(/[a-z0-9]{1,8}){0,2}$`)
	versionPattern    = regexp.MustCompile(`^v(0|[1-9][0-9]{0,5})\.(0|[1-9][0-9]{0,5})\.(0|[1-9][0-9]{0,5})(?:-([A-Za-z0-9-]{1,8}(?:\.[A-Za-z0-9-]{1,8}){0,3}))?$`)
	digitsPattern     = regexp.MustCompile(`^[0-9]+$`)
	zeroAheadPattern  = regexp.MustCompile(`^0[0-9]+$`)
	wordPattern       = regexp.MustCompile(`[^ \t]+`)
	manifestLineForms = map[string]string{"module": "P", "require": "PV", "exclude": "PV", "replace": "PV>V"}
	indexLineForms    = map[string]string{"version": "V"}
)

func isPath(s string) bool { return pathPattern.MatchString(s) }

// versionKey is empty if s is no version.
func versionKey(s string) string {
	parts := versionPattern.FindStringSubmatch(s)
	if parts == nil || len(s) > 40 {
		return ""
	}
	key := ""
	for _, number := range parts[1:4] {
		key += strings.Repeat("0", 6-len(number)) + number
	}
	if parts[4] == "" {
		return key + "~"
	}
	for _, id := range strings.Split(parts[4], ".") {
		switch {
		case zeroAheadPattern.MatchString(id):
			return ""
		case digitsPattern.MatchString(id):
			n, _ := strconv.Atoi(id)
			key += fmt.Sprintf("1%08d", n)
		default:
			key += "2" + id + "\x00"
		}
	}
	return key
}

func isVersion(s string) bool { return versionKey(s) != "" }

// slipsOf tells all slips of a text with lines of these forms; isManifest: with a module line at its head.
func slipsOf(text string, forms map[string]string, isManifest bool) []api.Slip {
	if len(text) > 2000 {
		return []api.Slip{{Line: 0, At: 0, Kind: 1}}
	}
	var slips []api.Slip
	var clean [][]string
	spoke := false
	for i, line := range strings.Split(text, "\n") {
		line, _, _ = strings.Cut(line, "#")
		spans := wordPattern.FindAllStringIndex(line, -1)
		if len(spans) == 0 {
			continue
		}
		words := wordPattern.FindAllString(line, -1)
		at, kind := slipOfLine(words, spans, forms, isManifest, !spoke, clean)
		spoke = true
		if kind != 0 {
			slips = append(slips, api.Slip{Line: i + 1, At: at, Kind: kind})
		} else {
			clean = append(clean, words)
		}
	}
	if isManifest && !spoke {
		return []api.Slip{{Line: 0, At: 0, Kind: 2}}
	}
	return slips
}

func slipOfLine(words []string, spans [][]int, forms map[string]string, isManifest, isFirst bool, clean [][]string) (int, int) {
	start := spans[0][0]
	if isManifest && isFirst != (words[0] == "module") {
		return start, 2
	}
	form, ok := forms[words[0]]
	if !ok {
		return start, 3
	}
	if len(words) > 1+len(form) {
		return spans[1+len(form)][0], 4
	}
	if len(words) < 1+len(form) {
		return spans[len(spans)-1][1], 4
	}
	for k, letter := range "PV>" {
		for i := range form {
			w := words[1+i]
			good := letter == 'P' && isPath(w) || letter == 'V' && isVersion(w) || letter == '>' && w == "=>"
			if rune(form[i]) == letter && !good {
				return spans[1+i][0], 5 + k
			}
		}
	}
	requires := 0
	for _, earlier := range clean {
		if saysAgain(words, earlier) {
			return start, 8
		}
		if earlier[0] == "require" {
			requires++
		}
	}
	if words[0] == "require" && requires >= 20 {
		return start, 9
	}
	return 0, 0
}

func saysAgain(words, earlier []string) bool {
	if words[0] != earlier[0] || words[1] != earlier[1] {
		return false
	}
	return words[0] == "require" || words[0] == "version" || words[2] == earlier[2]
}

// manifestOf tells what a text without slips says.
func manifestOf(text string) api.Manifest {
	var m api.Manifest
	for _, line := range strings.Split(text, "\n") {
		line, _, _ = strings.Cut(line, "#")
		w := wordPattern.FindAllString(line, -1)
		if len(w) == 0 {
			continue
		}
		switch w[0] {
		case "module":
			m.Path = w[1]
		case "require":
			m.Requires = append(m.Requires, api.Module{Path: w[1], Version: w[2]})
		case "exclude":
			m.Excludes = append(m.Excludes, api.Module{Path: w[1], Version: w[2]})
		case "replace":
			m.Replaces = append(m.Replaces, api.Swap{Path: w[1], Version: w[2], By: w[4]})
		}
	}
	sort.Slice(m.Requires, func(i, j int) bool { return m.Requires[i].Path < m.Requires[j].Path })
	sort.Slice(m.Excludes, func(i, j int) bool {
		a, b := m.Excludes[i], m.Excludes[j]
		return a.Path < b.Path || a.Path == b.Path && versionKey(a.Version) < versionKey(b.Version)
	})
	sort.Slice(m.Replaces, func(i, j int) bool {
		a, b := m.Replaces[i], m.Replaces[j]
		return a.Path < b.Path || a.Path == b.Path && versionKey(a.Version) < versionKey(b.Version)
	})
	return m
}

// versionsOf tells the versions of an index without slips.
func versionsOf(text string) []string {
	var all []string
	for _, line := range strings.Split(text, "\n") {
		line, _, _ = strings.Cut(line, "#")
		if w := wordPattern.FindAllString(line, -1); len(w) > 0 {
			all = append(all, w[1])
		}
	}
	sort.Slice(all, func(i, j int) bool { return versionKey(all[i]) < versionKey(all[j]) })
	return all
}
