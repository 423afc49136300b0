package plan

import (
	"slices"

	"pinset/api"
	"pinset/names"
)

// list is the build list, in order of the paths, and what is wrong with the nodes that are reached.
type list struct {
	modules  []api.Module
	problems []api.Problem
}

// sameAs leaves the problems out: what hangs on the list is the order, which asks for the modules alone.
func (l list) sameAs(ahead finding) bool {
	switch was := ahead.(type) {
	case list:
		return slices.Equal(l.modules, was.modules)
	}
	return false
}

func (t *task) workOutList() list {
	root := t.root()
	if root.Path == "" {
		return list{problems: []api.Problem{{Kind: api.NoRoot}}}
	}
	reached := []api.Module{root}
	var problems []api.Problem
	for i := 0; i < len(reached); i++ {
		w := t.wants(reached[i])
		problems = append(problems, w.problems...)
		for _, m := range w.modules {
			if slices.Contains(reached, m) {
				continue
			}
			if len(reached) == api.MaxNodes {
				return list{[]api.Module{root}, []api.Problem{{Kind: api.TooMany}}}
			}
			reached = append(reached, m)
		}
	}
	return list{highest(reached), problems}
}

// highest is of each path the module with the highest version.
func highest(reached []api.Module) []api.Module {
	slices.SortFunc(reached, names.CompareModules)
	var modules []api.Module
	for i, m := range reached {
		if i+1 < len(reached) && reached[i+1].Path == m.Path {
			continue
		}
		modules = append(modules, m)
	}
	return modules
}
