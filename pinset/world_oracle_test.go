package pinset_test

import (
	"sort"
	"strings"

	"pinset/api"
)

// world is an engine by the document's words alone: texts in maps, every
// answer worked out from the first word on, and what is needed over others
// found by trying all again until nothing is new.
type world struct {
	manifests map[api.Module]string
	indexes   map[string]string
	root      string
	revision  int
	read      map[string]parsed // manifests' texts, whichever they are under: patterns are slow
}

// parsed is what a manifest's text says, or that it has slips.
type parsed struct {
	says     api.Manifest
	hasSlips bool
}

func newWorld() *world {
	return &world{manifests: map[api.Module]string{}, indexes: map[string]string{}, read: map[string]parsed{}}
}

func (w *world) parse(text string) parsed {
	p, there := w.read[text]
	if !there {
		p.hasSlips = len(slipsOf(text, manifestLineForms, true)) > 0
		if !p.hasSlips {
			p.says = manifestOf(text)
		}
		w.read[text] = p
	}
	return p
}

func (w *world) putManifest(path, version, text string) api.Errno {
	at := api.Module{Path: path, Version: version}
	old, there := w.manifests[at]
	switch {
	case !isPath(path):
		return api.ErrPath
	case version != "" && !isVersion(version):
		return api.ErrVersion
	case !there && len(w.manifests) == 60:
		return api.ErrMany
	case !there || old != text:
		w.manifests[at] = text
		w.revision++
	}
	return api.OK
}

func (w *world) dropManifest(path, version string) api.Errno {
	at := api.Module{Path: path, Version: version}
	_, there := w.manifests[at]
	switch {
	case !isPath(path):
		return api.ErrPath
	case version != "" && !isVersion(version):
		return api.ErrVersion
	case there:
		delete(w.manifests, at)
		w.revision++
	}
	return api.OK
}

func (w *world) putIndex(path, text string) api.Errno {
	old, there := w.indexes[path]
	switch {
	case !isPath(path):
		return api.ErrPath
	case !there && len(w.indexes) == 30:
		return api.ErrMany
	case !there || old != text:
		w.indexes[path] = text
		w.revision++
	}
	return api.OK
}

func (w *world) dropIndex(path string) api.Errno {
	_, there := w.indexes[path]
	switch {
	case !isPath(path):
		return api.ErrPath
	case there:
		delete(w.indexes, path)
		w.revision++
	}
	return api.OK
}

func (w *world) setRoot(path string) api.Errno {
	switch {
	case path != "" && !isPath(path):
		return api.ErrPath
	case path != w.root:
		w.root = path
		w.revision++
	}
	return api.OK
}

// said is what the manifest says that is read for a path, or the problem with it.
func (w *world) said(at api.Module) (api.Manifest, []api.Problem) {
	text, there := w.manifests[at]
	kind := 0
	switch {
	case !there:
		kind = 2
	case w.parse(text).hasSlips:
		kind = 3
	case w.parse(text).says.Path != at.Path:
		kind = 4
	default:
		return w.parse(text).says, nil
	}
	return api.Manifest{}, []api.Problem{{Kind: kind, Path: at.Path, Version: at.Version}}
}

// sourceOf is what a node's manifest lies under.
func (w *world) sourceOf(node api.Module) api.Module {
	rules, _ := w.said(api.Module{Path: w.root})
	for _, r := range rules.Replaces {
		if (api.Module{Path: r.Path, Version: r.Version}) == node {
			return api.Module{Path: r.Path, Version: r.By}
		}
	}
	return node
}

// wants is what a node wants, and its problems.
func (w *world) wants(node api.Module) ([]api.Module, []api.Problem) {
	rules, _ := w.said(api.Module{Path: w.root})
	excluded := map[api.Module]bool{}
	for _, x := range rules.Excludes {
		excluded[x] = true
	}
	m, problems := w.said(w.sourceOf(node))
	var wanted []api.Module
	for _, r := range m.Requires {
		if r.Path == w.root {
			continue
		}
		version, kind := w.versionFor(r, excluded)
		switch kind {
		case 0:
			wanted = append(wanted, api.Module{Path: r.Path, Version: version})
		case 5, 6:
			problems = append(problems, api.Problem{Kind: kind, Path: r.Path})
		default:
			problems = append(problems, api.Problem{Kind: kind, Path: r.Path, Version: r.Version})
		}
	}
	return wanted, problems
}

// versionFor is the version in which a required module is wanted, or a problem's kind.
func (w *world) versionFor(r api.Module, excluded map[api.Module]bool) (string, int) {
	text, there := w.indexes[r.Path]
	if !there {
		return "", 5
	}
	if len(slipsOf(text, indexLineForms, false)) > 0 {
		return "", 6
	}
	found, best := false, ""
	for _, v := range versionsOf(text) {
		found = found || v == r.Version
		isFree := versionKey(v) >= versionKey(r.Version) && !excluded[api.Module{Path: r.Path, Version: v}]
		if isFree && (best == "" || versionKey(v) < versionKey(best)) {
			best = v
		}
	}
	switch {
	case !found:
		return "", 7
	case best == "":
		return "", 8
	}
	return best, 0
}

// wanting is what a node wants, and its problems.
type wanting struct {
	modules  []api.Module
	problems []api.Problem
}

func (w *world) reached() map[api.Module]wanting {
	found := map[api.Module]wanting{}
	for next := []api.Module{{Path: w.root}}; len(next) > 0; next = next[1:] {
		if _, there := found[next[0]]; there {
			continue
		}
		wanted, problems := w.wants(next[0])
		found[next[0]] = wanting{wanted, problems}
		next = append(next, wanted...)
	}
	return found
}

func keysOf[K comparable, V any](m map[K]V) []K {
	var all []K
	for k := range m {
		all = append(all, k)
	}
	return all
}

func (w *world) answer() api.Answer {
	if w.root == "" {
		return api.Answer{Problems: []api.Problem{{Kind: 1}}}
	}
	nodes := w.reached()
	if len(nodes) > 60 {
		return api.Answer{Modules: []api.Module{{Path: w.root}}, Problems: []api.Problem{{Kind: 9}}, Order: []string{w.root}}
	}
	chosen := map[string]string{}
	problems := map[api.Problem]bool{}
	for node, own := range nodes {
		if old, there := chosen[node.Path]; !there || versionKey(old) < versionKey(node.Version) {
			chosen[node.Path] = node.Version
		}
		for _, p := range own.problems {
			problems[p] = true
		}
	}
	var a api.Answer
	for _, path := range sortedPaths(chosen) {
		a.Modules = append(a.Modules, api.Module{Path: path, Version: chosen[path]})
	}
	for _, group := range groupsOf(needsOf(nodes, chosen)) {
		a.Order = append(a.Order, group...)
		if len(group) > 1 {
			problems[api.Problem{Kind: 10, Path: group[0], Version: strings.Join(group, " ")}] = true
		}
	}
	a.Problems = keysOf(problems)
	sort.Slice(a.Problems, func(i, j int) bool {
		p, q := a.Problems[i], a.Problems[j]
		if p.Kind != q.Kind {
			return p.Kind < q.Kind
		}
		return p.Path < q.Path || p.Path == q.Path && p.Version < q.Version
	})
	return a
}

func sortedPaths[V any](m map[string]V) []string {
	all := keysOf(m)
	sort.Strings(all)
	return all
}

// needsOf tells for each path of the build list which others it needs, be it over others.
func needsOf(nodes map[api.Module]wanting, chosen map[string]string) map[string]map[string]bool {
	all := map[string]map[string]bool{}
	for path, version := range chosen {
		all[path] = map[string]bool{}
		for _, m := range nodes[api.Module{Path: path, Version: version}].modules {
			all[path][m.Path] = true
		}
	}
	for isNew := true; isNew; {
		isNew = false
		for _, own := range all {
			for _, over := range keysOf(own) {
				for far := range all[over] {
					isNew = isNew || !own[far]
					own[far] = true
				}
			}
		}
	}
	return all
}

// groupsOf is the groups in the order in which they are to be installed.
func groupsOf(needs map[string]map[string]bool) [][]string {
	var waiting, done [][]string
	for _, path := range sortedPaths(needs) {
		group := []string{path}
		for _, other := range sortedPaths(needs) {
			if other != path && needs[path][other] && needs[other][path] {
				group = append(group, other)
			}
		}
		sort.Strings(group)
		if group[0] == path {
			waiting = append(waiting, group)
		}
	}
	placed := map[string]bool{}
	for len(waiting) > 0 {
		for i, group := range waiting {
			if !isServed(group, needs, placed) {
				continue
			}
			for _, path := range group {
				placed[path] = true
			}
			done = append(done, group)
			waiting = append(waiting[:i:i], waiting[i+1:]...)
			break
		}
	}
	return done
}

func isServed(group []string, needs map[string]map[string]bool, placed map[string]bool) bool {
	own := map[string]bool{}
	for _, path := range group {
		own[path] = true
	}
	for _, path := range group {
		for other := range needs[path] {
			if !own[other] && !placed[other] {
				return false
			}
		}
	}
	return true
}
