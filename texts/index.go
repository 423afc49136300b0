package texts

import (
	"slices"

	"pinset/api"
	"pinset/names"
)

// Index tells the versions that an index's text names, in order, or its slips.
func Index(text string) ([]string, []api.Slip) {
	r := reader{shapeOf: indexShape}
	statements, slips := r.read(text)
	if len(slips) > 0 {
		return nil, slips
	}
	var versions []string
	for _, s := range statements {
		versions = append(versions, s.version)
	}
	slices.SortFunc(versions, names.CompareWords)
	return versions, nil
}

func indexShape(first string) (shape, bool) {
	if first == wordVersion {
		return shape{api.SlipVersion}, true
	}
	return nil, false
}
