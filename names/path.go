// Package names tells what a path and what a version is, and in which order versions are.
package names

import (
	"slices"
	"strings"
)

const (
	maxElements = 3 // of a path
	maxElement  = 8 // bytes of one
)

// IsPath tells whether s is a path.
func IsPath(s string) bool {
	// One element more than may be is enough to know that there are too many, however long s is.
	elements := strings.SplitN(s, "/", maxElements+1)
	return len(elements) <= maxElements && !slices.ContainsFunc(elements, isNoElement)
}

func isNoElement(s string) bool {
	return len(s) < 1 || len(s) > maxElement || !allOf(s, isSmallOrDigit)
}

func allOf(s string, fits func(c byte) bool) bool {
	for i := range len(s) {
		if !fits(s[i]) {
			return false
		}
	}
	return true
}

func isDigit(c byte) bool { return '0' <= c && c <= '9' }

func isSmall(c byte) bool { return 'a' <= c && c <= 'z' }

func isGreat(c byte) bool { return 'A' <= c && c <= 'Z' }

func isSmallOrDigit(c byte) bool { return isSmall(c) || isDigit(c) }
