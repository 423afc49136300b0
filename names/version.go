package names

import (
	"cmp"
	"slices"
	"strconv"
	"strings"

	"pinset/api"
)

const (
	numberCount    = 3 // of a version
	maxNumber      = 6 // digits of one
	maxIdentifiers = 4 // of a prerelease
	maxIdentifier  = 8 // bytes of one
)

// Version is a version, taken apart so that it can be compared.
type Version struct {
	numbers     [numberCount]int
	identifiers []string // none, unless it is a prerelease
}

// ParseVersion takes s apart, and tells whether it is a version.
func ParseVersion(s string) (Version, bool) {
	rest, ok := strings.CutPrefix(s, "v")
	if !ok || len(s) > api.MaxVersion {
		return Version{}, false
	}
	front, back, isPrerelease := strings.Cut(rest, "-")
	numbers, ok := parseNumbers(front)
	if !ok {
		return Version{}, false
	}
	if !isPrerelease {
		return Version{numbers: numbers}, true
	}
	identifiers := strings.Split(back, ".")
	if len(identifiers) > maxIdentifiers || slices.ContainsFunc(identifiers, isNoIdentifier) {
		return Version{}, false
	}
	return Version{numbers, identifiers}, true
}

func parseNumbers(s string) ([numberCount]int, bool) {
	var numbers [numberCount]int
	parts := strings.Split(s, ".")
	if len(parts) != numberCount {
		return numbers, false
	}
	for i, part := range parts {
		if len(part) > maxNumber || !isNumber(part) {
			return [numberCount]int{}, false
		}
		numbers[i] = numberOf(part)
	}
	return numbers, true
}

// isNumber tells whether s is digits alone, without a 0 ahead that could be left out.
func isNumber(s string) bool {
	return s == "0" || s != "" && s[0] != '0' && allOf(s, isDigit)
}

func isNoIdentifier(s string) bool {
	if len(s) < 1 || len(s) > maxIdentifier {
		return true
	}
	if allOf(s, isDigit) {
		return !isNumber(s)
	}
	return !allOf(s, isIdentifierByte)
}

func isIdentifierByte(c byte) bool { return isSmallOrDigit(c) || isGreat(c) || c == '-' }

// numberOf is asked of numbers of 8 digits at most: they always fit.
func numberOf(s string) int {
	n, _ := strconv.Atoi(s)
	return n
}

// Compare is -1, 0 or 1: v is ahead of w, is w, is behind it.
func (v Version) Compare(w Version) int {
	if c := slices.Compare(v.numbers[:], w.numbers[:]); c != 0 {
		return c
	}
	if v.isPrerelease() != w.isPrerelease() {
		if v.isPrerelease() {
			return -1
		}
		return 1
	}
	return slices.CompareFunc(v.identifiers, w.identifiers, compareIdentifiers)
}

func (v Version) isPrerelease() bool { return len(v.identifiers) > 0 }

func compareIdentifiers(a string, b string) int {
	aIsNumber, bIsNumber := isNumber(a), isNumber(b)
	switch {
	case aIsNumber && bIsNumber:
		return cmp.Compare(numberOf(a), numberOf(b))
	case aIsNumber:
		return -1
	case bIsNumber:
		return 1
	}
	return strings.Compare(a, b)
}

// CompareWords compares versions as Compare does; words that are none are ahead of all versions, byte by byte.
func CompareWords(a string, b string) int {
	v, aIsVersion := ParseVersion(a)
	w, bIsVersion := ParseVersion(b)
	switch {
	case aIsVersion && bIsVersion:
		return v.Compare(w)
	case aIsVersion:
		return 1
	case bIsVersion:
		return -1
	}
	return strings.Compare(a, b)
}
