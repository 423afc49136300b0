package plan

import (
	"slices"

	"pinset/api"
)

// wants is what a node wants, and what is wrong with it.
type wants struct {
	modules  []api.Module
	problems []api.Problem
}

func (w wants) sameAs(ahead finding) bool {
	switch was := ahead.(type) {
	case wants:
		return slices.Equal(w.modules, was.modules) && slices.Equal(w.problems, was.problems)
	}
	return false
}

func (t *task) workOutWants(node api.Module) wants {
	root := t.root()
	rules := t.rules(root)
	source := replaced(node, rules.Replaces)
	m := t.manifest(source)
	if kind := m.problemAs(node.Path); kind != 0 {
		return wants{problems: []api.Problem{{Kind: kind, Path: source.Path, Version: source.Version}}}
	}
	var w wants
	for _, required := range m.says.Requires {
		if required.Path == root.Path {
			continue
		}
		chosen, problem := choose(required, t.index(required.Path), rules.Excludes)
		if problem.Kind != 0 {
			w.problems = append(w.problems, problem)
			continue
		}
		w.modules = append(w.modules, chosen)
	}
	return w
}

// rules is what the root's manifest says: it alone excludes and replaces.
func (t *task) rules(root api.Module) api.Manifest {
	m := t.manifest(root)
	if m.problemAs(root.Path) != 0 {
		return api.Manifest{}
	}
	return m.says
}

// replaced is what a node's manifest lies under. A replacement is not itself replaced.
func replaced(node api.Module, replaces []api.Swap) api.Module {
	for _, r := range replaces {
		if r.Path == node.Path && r.Version == node.Version {
			return api.Module{Path: r.Path, Version: r.By}
		}
	}
	return node
}

// choose is the module that is wanted where one is required, or else a problem.
func choose(required api.Module, x index, excludes []api.Module) (api.Module, api.Problem) {
	if x.problem != 0 {
		return api.Module{}, api.Problem{Kind: x.problem, Path: required.Path}
	}
	at := slices.Index(x.versions, required.Version)
	if at < 0 {
		return api.Module{}, api.Problem{Kind: api.NoVersion, Path: required.Path, Version: required.Version}
	}
	for _, version := range x.versions[at:] {
		m := api.Module{Path: required.Path, Version: version}
		if !slices.Contains(excludes, m) {
			return m, api.Problem{}
		}
	}
	return api.Module{}, api.Problem{Kind: api.Excluded, Path: required.Path, Version: required.Version}
}
