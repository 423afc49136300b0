package plan

import (
	"slices"
	"strings"

	"pinset/api"
)

// order is the paths of the build list as they are to be installed, and the groups that are a problem.
type order struct {
	paths    []string
	problems []api.Problem
}

func (o order) sameAs(ahead finding) bool {
	switch was := ahead.(type) {
	case order:
		return slices.Equal(o.paths, was.paths) && slices.Equal(o.problems, was.problems)
	}
	return false
}

func (t *task) workOutOrder() order {
	modules := t.list().modules
	needs := t.needsOver(modules)
	var o order
	placed := make([]bool, len(modules))
	for group := nextGroup(needs, placed); len(group) > 0; group = nextGroup(needs, placed) {
		var paths []string
		for _, i := range group {
			placed[i] = true
			paths = append(paths, modules[i].Path)
		}
		o.paths = append(o.paths, paths...)
		if len(paths) > 1 {
			o.problems = append(o.problems, api.Problem{Kind: api.Cycle, Path: paths[0], Version: strings.Join(paths, " ")})
		}
	}
	return o
}

// needsOver tells of each two modules whether the first needs the second, be it over others.
func (t *task) needsOver(modules []api.Module) [][]bool {
	needs := make([][]bool, len(modules))
	for i, m := range modules {
		needs[i] = make([]bool, len(modules))
		for _, wanted := range t.wants(m).modules {
			at := slices.IndexFunc(modules, func(other api.Module) bool { return other.Path == wanted.Path })
			// The list may be the root alone, with nothing of what it wants.
			if at >= 0 {
				needs[i][at] = true
			}
		}
	}
	for over := range needs {
		for i := range needs {
			if !needs[i][over] {
				continue
			}
			for j := range needs {
				needs[i][j] = needs[i][j] || needs[over][j]
			}
		}
	}
	return needs
}

// nextGroup is, of the groups that are not placed while all that they need is, the one with the lowest path, or none.
// The modules are in order of the paths, so it is that of the first module of which this holds.
func nextGroup(needs [][]bool, placed []bool) []int {
	for i := range needs {
		if !placed[i] && isReady(needs, placed, i) {
			return groupOf(needs, i)
		}
	}
	return nil
}

// isReady tells whether all that a module needs is placed, or in its group.
func isReady(needs [][]bool, placed []bool, module int) bool {
	for other, needed := range needs[module] {
		if needed && !placed[other] && !needs[other][module] {
			return false
		}
	}
	return true
}

// groupOf is a module and all others that it needs and that need it.
func groupOf(needs [][]bool, module int) []int {
	var group []int
	for other, needed := range needs[module] {
		if other == module || needed && needs[other][module] {
			group = append(group, other)
		}
	}
	return group
}
