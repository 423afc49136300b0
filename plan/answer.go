package plan

import (
	"cmp"
	"slices"
	"strings"

	"pinset/api"
)

// Answer tells the build list, the problems and the order.
func (d *Desk) Answer() api.Answer {
	t := task{desk: d}
	l, o := t.list(), t.order()
	d.shrink()
	return api.Answer{
		Modules:  slices.Clone(l.modules),
		Problems: eachOnce(slices.Concat(l.problems, o.problems)),
		Order:    slices.Clone(o.paths),
	}
}

// eachOnce sorts the problems, and leaves out what is there again.
func eachOnce(problems []api.Problem) []api.Problem {
	slices.SortFunc(problems, compareProblems)
	return slices.Compact(problems)
}

func compareProblems(a api.Problem, b api.Problem) int {
	return cmp.Or(cmp.Compare(a.Kind, b.Kind), strings.Compare(a.Path, b.Path), strings.Compare(a.Version, b.Version))
}
