package texts

import (
	"slices"
	"strings"

	"pinset/api"
	"pinset/names"
)

// Manifest tells what a manifest's text says, or its slips.
func Manifest(text string) (api.Manifest, []api.Slip) {
	r := reader{shapeOf: manifestShape, opening: wordModule}
	statements, slips := r.read(text)
	if len(slips) > 0 {
		return api.Manifest{}, slips
	}
	var m api.Manifest
	for _, s := range statements {
		switch s.first {
		case wordModule:
			m.Path = s.path
		case wordRequire:
			m.Requires = append(m.Requires, api.Module{Path: s.path, Version: s.version})
		case wordExclude:
			m.Excludes = append(m.Excludes, api.Module{Path: s.path, Version: s.version})
		case wordReplace:
			m.Replaces = append(m.Replaces, api.Swap{Path: s.path, Version: s.version, By: s.by})
		}
	}
	return inOrder(m), nil
}

func manifestShape(first string) (shape, bool) {
	switch first {
	case wordModule:
		return shape{api.SlipPath}, true
	case wordRequire, wordExclude:
		return shape{api.SlipPath, api.SlipVersion}, true
	case wordReplace:
		return shape{api.SlipPath, api.SlipVersion, api.SlipArrow, api.SlipVersion}, true
	}
	return nil, false
}

// inOrder is m with its lists in order: new ones, m's own are not touched.
func inOrder(m api.Manifest) api.Manifest {
	m.Requires = sorted(m.Requires, comparePaths)
	m.Excludes = sorted(m.Excludes, names.CompareModules)
	m.Replaces = sorted(m.Replaces, compareSwaps)
	return m
}

func sorted[T any](list []T, compare func(a T, b T) int) []T {
	list = slices.Clone(list)
	slices.SortStableFunc(list, compare)
	return list
}

func comparePaths(a api.Module, b api.Module) int {
	return strings.Compare(a.Path, b.Path)
}

func compareSwaps(a api.Swap, b api.Swap) int {
	return names.CompareModules(api.Module{Path: a.Path, Version: a.Version}, api.Module{Path: b.Path, Version: b.Version})
}

// Format writes a manifest.
func Format(m api.Manifest) string {
	m = inOrder(m)
	var text strings.Builder
	writeLine(&text, wordModule, m.Path)
	for _, x := range m.Requires {
		writeLine(&text, wordRequire, x.Path, x.Version)
	}
	for _, x := range m.Excludes {
		writeLine(&text, wordExclude, x.Path, x.Version)
	}
	for _, x := range m.Replaces {
		writeLine(&text, wordReplace, x.Path, x.Version, arrow, x.By)
	}
	return text.String()
}

func writeLine(text *strings.Builder, words ...string) {
	text.WriteString(strings.Join(words, " "))
	text.WriteByte('\n')
}
