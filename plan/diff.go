package plan

import (
	"slices"

	"pinset/api"
)

// Between is what turns one answer into the next.
func Between(old api.Answer, next api.Answer) api.Diff {
	d := api.Diff{
		Drop:  without(old.Modules, next.Modules),
		Add:   without(next.Modules, old.Modules),
		Gone:  without(old.Problems, next.Problems),
		Come:  without(next.Problems, old.Problems),
		Moved: !slices.Equal(old.Order, next.Order),
	}
	if d.Moved {
		d.Order = slices.Clone(next.Order)
	}
	return d
}

// without is the elements of a list that are not in another, as they stand.
func without[T comparable](list []T, other []T) []T {
	var rest []T
	for _, x := range list {
		if !slices.Contains(other, x) {
			rest = append(rest, x)
		}
	}
	return rest
}
