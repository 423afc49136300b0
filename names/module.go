package names

import (
	"strings"

	"pinset/api"
)

// CompareModules is -1, 0 or 1: by the paths, and of one path by the versions, as CompareWords compares them.
func CompareModules(a api.Module, b api.Module) int {
	if c := strings.Compare(a.Path, b.Path); c != 0 {
		return c
	}
	return CompareWords(a.Version, b.Version)
}
