package pinset_test

import (
	"fmt"
	"slices"
	"strings"
	"sync"
	"testing"

	"pinset/api"
	"pinset/pinset"
)

// built is an engine with what the words say: "root a", "index b v1.0.0 v1.1.0",
// "a: require b v1.0.0; exclude .." (the root's manifest, its module line
// is put ahead), "b v1.0.0: ..".
func built(t *testing.T, words ...string) *pinset.Engine {
	t.Helper()
	e := newEngine(t, 100)
	lay(t, e, words...)
	return e
}

func lay(t *testing.T, e *pinset.Engine, words ...string) {
	t.Helper()
	for _, w := range words {
		head, lines, isManifest := strings.Cut(w, ":")
		fields := strings.Fields(head)
		x := api.OK
		switch {
		case isManifest:
			text := "module " + fields[0] + "\n" + strings.ReplaceAll(lines, ";", "\n")
			x = e.PutManifest(fields[0], strings.Join(fields[1:], ""), text)
		case fields[0] == "root":
			x = e.SetRoot(strings.Join(fields[1:], ""))
		case fields[0] == "index":
			x = e.PutIndex(fields[1], indexOf(fields[2:]...))
		}
		checkErrno(t, w, x, api.OK)
	}
}

func indexOf(versions ...string) string {
	text := ""
	for _, v := range versions {
		text += "version " + v + "\n"
	}
	return text
}

// told is an answer in words: modules | problems | order.
func told(a api.Answer) string {
	var modules, problems []string
	for _, m := range a.Modules {
		modules = append(modules, strings.TrimSuffix(m.Path+" "+m.Version, " "))
	}
	for _, p := range a.Problems {
		problems = append(problems, strings.TrimRight(fmt.Sprint(p.Kind, " ", p.Path, " ", p.Version), " "))
	}
	all := strings.Join(modules, ", ") + " | " + strings.Join(problems, ", ") + " | " + strings.Join(a.Order, " ")
	return strings.TrimSpace(strings.ReplaceAll(all, "|  |", "| |"))
}

func checkAnswer(t *testing.T, e *pinset.Engine, want string) {
	t.Helper()
	if got := told(e.Answer()); got != want {
		t.Errorf("P13 to P16: Answer() = %s, want %s", got, want)
	}
}

var exampleWorld = []string{"root a", "a: require b v1.0.0; require c v1.0.0", "b v1.0.0: require c v1.1.0", "c v1.0.0:", "c v1.1.0:", "index b v1.0.0", "index c v1.0.0 v1.1.0"}

const exampleAnswer = "a, b v1.0.0, c v1.1.0 | | c b a"

func TestExamples(t *testing.T) {
	e := built(t, exampleWorld...)
	checkAnswer(t, e, exampleAnswer)
	lay(t, e, "a: require b v1.0.0; require c v1.0.0; exclude c v1.1.0")
	checkAnswer(t, e, "a, b v1.0.0, c v1.0.0 | 8 c v1.1.0 | b c a")
	lay(t, e, "index c v1.2.0 v1.0.0 v1.1.0", "c v1.2.0:")
	checkAnswer(t, e, "a, b v1.0.0, c v1.2.0 | | c b a")
	e = built(t, exampleWorld...)
	lay(t, e, "c v1.1.0: require b v1.0.0")
	checkAnswer(t, e, "a, b v1.0.0, c v1.1.0 | 10 b b c | b c a")
}

func TestNoRoot(t *testing.T) {
	e := built(t, exampleWorld...)
	lay(t, e, "root")
	checkAnswer(t, e, "| 1 |")
	lay(t, e, "root a")
	checkAnswer(t, e, exampleAnswer)
}

func TestRootAlone(t *testing.T) {
	e := built(t, "root a", "a v1.0.0:", "index a v1.0.0")
	checkAnswer(t, e, "a | 2 a | a")
	e.PutManifest("a", "", "module a\nrequire b")
	checkAnswer(t, e, "a | 3 a | a")
	e.PutManifest("a", "", "module b\nrequire c v1.0.0\nreplace c v1.0.0 => v2.0.0")
	checkAnswer(t, e, "a | 4 a | a")
	e.PutManifest("a", "", "module a\n")
	checkAnswer(t, e, "a | | a")
	e.PutManifest("a", "", "# nothing\n")
	checkAnswer(t, e, "a | 3 a | a")
	e.PutManifest("a", "", padded("module a\n", 2000))
	checkAnswer(t, e, "a | | a")
	e.PutManifest("a", "", padded("module a\n", 2001))
	checkAnswer(t, e, "a | 3 a | a")
}

func TestManifestProblems(t *testing.T) {
	e := built(t, "root a", "a: require b v1.0.0", "index b v1.0.0 v2.0.0", "b v2.0.0: require c v1.0.0", "b: require c v1.0.0")
	checkAnswer(t, e, "a, b v1.0.0 | 2 b v1.0.0 | b a")
	e.PutManifest("b", "v1.0.0", "module b\nrequire c v1.0.0\nrequire d v1\n")
	checkAnswer(t, e, "a, b v1.0.0 | 3 b v1.0.0 | b a")
	e.PutManifest("b", "v1.0.0", "module b/b\nrequire c v1.0.0\n")
	checkAnswer(t, e, "a, b v1.0.0 | 4 b v1.0.0 | b a")
	e.PutManifest("b", "v1.0.0", "module a\nrequire c v1.0.0\n")
	checkAnswer(t, e, "a, b v1.0.0 | 4 b v1.0.0 | b a")
	e.PutManifest("b", "v1.0.0", "module b\nrequire c v1.0.0\n")
	checkAnswer(t, e, "a, b v1.0.0 | 5 c | b a")
}

func TestIndexProblems(t *testing.T) {
	e := built(t, "root a", "a: require b v1.0.0; require c v1.0.0", "c v1.0.0:", "index c v1.0.0")
	checkAnswer(t, e, "a, c v1.0.0 | 5 b | c a")
	e.PutIndex("b", "version v1.0.0\nversion v1.0.0\n")
	checkAnswer(t, e, "a, c v1.0.0 | 6 b | c a")
	e.PutIndex("b", padded("version v1.0.0\n", 2001))
	checkAnswer(t, e, "a, c v1.0.0 | 6 b | c a")
	for _, text := range []string{"", "# nothing", "version v1.0.1", "version v1.0.0-a\nversion v2.0.0\n"} {
		e.PutIndex("b", text)
		checkAnswer(t, e, "a, c v1.0.0 | 7 b v1.0.0 | c a")
	}
	e.PutIndex("b", padded("version v1.0.0\n", 2000))
	checkAnswer(t, e, "a, b v1.0.0, c v1.0.0 | 2 b v1.0.0 | b c a")
	e.DropIndex("b")
	checkAnswer(t, e, "a, c v1.0.0 | 5 b | c a")
}

func TestExcluded(t *testing.T) {
	for _, c := range []struct{ excludes, want string }{
		{"", "a, b v1.1.0 | 2 b v1.1.0 | b a"},
		{"exclude b v1.0.0; exclude b v1.2.0", "a, b v1.1.0 | 2 b v1.1.0 | b a"},
		{"exclude c v1.1.0", "a, b v1.1.0 | 2 b v1.1.0 | b a"},
		{"exclude b v1.1.0", "a, b v1.2.0-9 | 2 b v1.2.0-9 | b a"},
		{"exclude b v1.1.0; exclude b v1.2.0-9", "a, b v1.2.0-rc | 2 b v1.2.0-rc | b a"},
		{"exclude b v1.1.0; exclude b v1.2.0-rc", "a, b v1.2.0-9 | 2 b v1.2.0-9 | b a"},
		{"exclude b v1.2.0-rc; exclude b v1.1.0; exclude b v1.2.0-9", "a, b v1.2.0 | 2 b v1.2.0 | b a"},
		{"exclude b v1.1.0; exclude b v1.2.0-9; exclude b v1.2.0-rc; exclude b v1.2.0", "a, b v1.10.0 | 2 b v1.10.0 | b a"},
		{"exclude b v1.1.0; exclude b v1.2.0-9; exclude b v1.2.0-rc; exclude b v1.2.0; exclude b v1.10.0", "a | 8 b v1.1.0 | a"},
		{"exclude b v1.1.0; exclude b v1.1.1; exclude b v1.2.0-9; exclude b v1.2.0-rc; exclude b v1.2.0; exclude b v1.10.0; exclude b v9.0.0", "a | 8 b v1.1.0 | a"},
	} {
		e := built(t, "root a", "a: require b v1.1.0; "+c.excludes, "index b v1.10.0 v1.2.0-rc v1.0.0 v1.2.0 v1.1.0 v1.2.0-9")
		checkAnswer(t, e, c.want)
	}
}

// What a require of the root and one of another module want is excluded alike; what is not in the index is told as that.
func TestExcludesHoldForAll(t *testing.T) {
	e := built(t, "root a", "a: require b v1.0.0; exclude c v1.0.0; exclude c v3.0.0", "b v1.0.0: require c v1.0.0", "index b v1.0.0", "index c v1.0.0 v2.0.0", "c v2.0.0:")
	checkAnswer(t, e, "a, b v1.0.0, c v2.0.0 | | c b a")
	lay(t, e, "b v1.0.0: require c v3.0.0")
	checkAnswer(t, e, "a, b v1.0.0 | 7 c v3.0.0 | b a")
	lay(t, e, "b v1.0.0: require c v1.0.0; exclude c v2.0.0")
	checkAnswer(t, e, "a, b v1.0.0, c v2.0.0 | | c b a")
}

func TestReplaced(t *testing.T) {
	e := built(t, "root a", "a: require b v1.0.0; replace b v1.0.0 => v3.0.0", "index b v1.0.0", "index c v1.0.0", "b v1.0.0: require x v1.0.0", "b v3.0.0: require c v1.0.0", "c v1.0.0:")
	checkAnswer(t, e, "a, b v1.0.0, c v1.0.0 | | c b a")
	e.PutManifest("b", "v3.0.0", "module b\nmodule b")
	checkAnswer(t, e, "a, b v1.0.0 | 3 b v3.0.0 | b a")
	e.PutManifest("b", "v3.0.0", "module c")
	checkAnswer(t, e, "a, b v1.0.0 | 4 b v3.0.0 | b a")
	e.DropManifest("b", "v3.0.0")
	checkAnswer(t, e, "a, b v1.0.0 | 2 b v3.0.0 | b a")
	lay(t, e, "a: require b v1.0.0; replace b v1.0.1 => v3.0.0; replace c v1.0.0 => v3.0.0; replace a v1.0.0 => v2.0.0")
	checkAnswer(t, e, "a, b v1.0.0 | 5 x | b a")
	lay(t, e, "a: require b v1.0.0; replace b v1.0.0 => v1.0.0")
	checkAnswer(t, e, "a, b v1.0.0 | 5 x | b a")
}

func TestReplacementsAreNotReplaced(t *testing.T) {
	e := built(t, "root a", "a: require b v1.0.0; replace b v1.0.0 => v2.0.0; replace b v2.0.0 => v1.0.0", "index b v1.0.0 v2.0.0", "b v1.0.0: require x v1.0.0", "b v2.0.0: require y v1.0.0")
	checkAnswer(t, e, "a, b v1.0.0 | 5 y | b a")
	lay(t, e, "a: require b v2.0.0; replace b v1.0.0 => v2.0.0; replace b v2.0.0 => v1.0.0")
	checkAnswer(t, e, "a, b v2.0.0 | 5 x | b a")
}

// A version that takes an excluded one's place is replaced like any other.
func TestExcludedAndReplaced(t *testing.T) {
	e := built(t, "root a", "a: require b v1.0.0; exclude b v1.0.0; replace b v1.0.0 => v8.0.0; replace b v2.0.0 => v9.0.0", "index b v1.0.0 v2.0.0", "b v8.0.0: require x v1.0.0", "b v9.0.0: require y v1.0.0")
	checkAnswer(t, e, "a, b v2.0.0 | 5 y | b a")
	lay(t, e, "a: require b v1.0.0; exclude b v9.0.0; replace b v1.0.0 => v9.0.0")
	checkAnswer(t, e, "a, b v1.0.0 | 5 y | b a")
}

func TestOtherManifestsExcludeAndReplaceNothing(t *testing.T) {
	e := built(t, "root a", "a: require b v1.0.0", "index b v1.0.0", "index c v1.0.0 v2.0.0", "b v1.0.0: require c v1.0.0; exclude c v1.0.0; replace c v1.0.0 => v2.0.0; replace b v1.0.0 => v2.0.0", "c v1.0.0:", "c v2.0.0: require x v1.0.0", "b v2.0.0: require y v1.0.0")
	checkAnswer(t, e, "a, b v1.0.0, c v1.0.0 | | c b a")
	lay(t, e, "root b", "b: require c v1.0.0; exclude c v1.0.0; replace c v2.0.0 => v1.0.0")
	checkAnswer(t, e, "b, c v2.0.0 | | c b")
}

// A require of the root's path says nothing: no index is asked, and no version.
func TestRequireOfTheRoot(t *testing.T) {
	e := built(t, "root a", "a: require a v1.0.0; require b v1.0.0", "index b v1.0.0", "b v1.0.0: require a v9.0.0", "a v1.0.0: require x v1.0.0")
	checkAnswer(t, e, "a, b v1.0.0 | | b a")
	lay(t, e, "index a v1.0.0 v9.0.0")
	checkAnswer(t, e, "a, b v1.0.0 | | b a")
	e.PutIndex("a", "odd")
	checkAnswer(t, e, "a, b v1.0.0 | | b a")
	lay(t, e, "root b", "b: require b v1.0.0; require a v1.0.0", "index a v1.0.0 v9.0.0", "index b v1.0.0")
	checkAnswer(t, e, "a v1.0.0, b | 5 x | a b")
}

func TestEachProblemOnceAndInOrder(t *testing.T) {
	e := built(t, "root m",
		"m: require a v1.0.0; require b v1.0.0; require b/a v1.0.0; require c v1.0.0; require d v1.0.0; require z v1.0.0; exclude d v1.0.0; exclude e v2.0.0; replace b v2.0.0 => v1.0.0",
		"index a v1.0.0", "index b v1.0.0 v2.0.0", "index b/a v1.0.0", "index c v1.0.0", "index d v1.0.0", "index e v2.0.0",
		"a v1.0.0: require b v2.0.0; require z v1.0.0; require y v1.0.0; require x v1.0.0; require c v1.0.0; require d v1.0.0; require e v10.0.0",
		"c v1.0.0: require a v1.0.0; require z v3.0.0; require x v2.0.0; require e v9.0.0; require d v1.0.0")
	e.PutManifest("b", "v1.0.0", "module b/b")
	e.PutManifest("b/a", "v1.0.0", "odd")
	e.PutIndex("x", "odd")
	checkAnswer(t, e, "a v1.0.0, b v2.0.0, b/a v1.0.0, c v1.0.0, m | 3 b/a v1.0.0, 4 b v1.0.0, 5 y, 5 z, 6 x, 7 e v10.0.0, 7 e v9.0.0, 8 d v1.0.0, 10 a a c | b a c b/a m")
	lay(t, e, "c v1.0.0: require e v2.0.0")
	e.DropManifest("b/a", "v1.0.0")
	checkAnswer(t, e, "a v1.0.0, b v2.0.0, b/a v1.0.0, c v1.0.0, m | 2 b/a v1.0.0, 4 b v1.0.0, 5 y, 5 z, 6 x, 7 e v10.0.0, 8 d v1.0.0, 8 e v2.0.0 | b b/a c a m")
}

// Lower versions are not in the build list, but what they want is, and their problems are told.
func TestLowerVersionsAreReached(t *testing.T) {
	e := built(t, "root a", "a: require b v1.0.0; require c v1.0.0", "index b v1.0.0 v1.10.0 v1.9.0", "index c v1.0.0", "index d v1.0.0", "b v1.0.0: require d v1.0.0; require x v1.0.0", "c v1.0.0: require b v1.9.0", "b v1.9.0: require b v1.10.0", "b v1.10.0: require b v1.0.0", "d v1.0.0: require c v1.0.0")
	checkAnswer(t, e, "a, b v1.10.0, c v1.0.0, d v1.0.0 | 5 x | b c a d")
}

// In versions' order, not byte by byte.
func TestHighestVersion(t *testing.T) {
	versions := []string{"v0.9.0", "v1.0.0-9", "v1.0.0-10", "v1.0.0-a", "v1.0.0", "v1.2.0", "v1.10.0", "v10.0.0"}
	for low := range versions {
		for high := low + 1; high < len(versions); high++ {
			for _, pair := range [][2]string{{versions[low], versions[high]}, {versions[high], versions[low]}} {
				e := built(t, "root a", "a: require b "+pair[0]+"; require c v1.0.0", "index c v1.0.0", "c v1.0.0: require b "+pair[1], "index b "+strings.Join(versions, " "), "b "+pair[0]+":", "b "+pair[1]+":")
				checkAnswer(t, e, "a, b "+versions[high]+", c v1.0.0 | | b c a")
			}
		}
	}
}

func chain(t *testing.T, n int) *pinset.Engine {
	t.Helper()
	e := newEngine(t, 100)
	layChain(t, e, n)
	return e
}

// layChain lays a root down that reaches n nodes, itself with them: 3 versions of each of 20 paths, in rows of three.
func layChain(t *testing.T, e *pinset.Engine, n int) {
	t.Helper()
	root := "m:"
	for i := 0; i < n-1; i += 3 {
		path := "x" + string(rune('a'+i/3))
		lay(t, e, "index "+path+" v1.0.0 v1.1.0 v1.2.0")
		lay(t, e, path+" v1.0.0: require "+path+" v1.1.0", path+" v1.1.0: require "+path+" v1.2.0")
		first := 3 - min(3, n-1-i)
		root += fmt.Sprintf("require %s v1.%d.0;", path, first)
	}
	lay(t, e, "root m", root)
}

func TestAsManyNodesAsMayBe(t *testing.T) {
	for n := 1; n <= 60; n++ {
		a := chain(t, n).Answer()
		paths := (n + 1) / 3
		if len(a.Modules) != 1+paths || len(a.Order) != 1+paths || len(a.Problems) != paths {
			t.Errorf("P14: with %d nodes Answer() = %s", n, told(a))
		}
	}
	e := chain(t, 61)
	checkAnswer(t, e, "m | 9 | m")
	e.PutIndex("xt", indexOf("v1.0.0", "v1.1.0"))
	if a := e.Answer(); len(a.Modules) != 21 || !slices.Contains(a.Problems, api.Problem{Kind: api.NoVersion, Path: "xt", Version: "v1.2.0"}) {
		t.Errorf("P14: with 60 nodes Answer() = %s", told(a))
	}
	lay(t, e, "xa v1.2.0: require y v1.0.0", "index y v1.0.0")
	checkAnswer(t, e, "m | 9 | m")
	e.DropManifest("m", "")
	checkAnswer(t, e, "m | 2 m | m")
}

// Where too many are reached no other problem is told, not even of a group.
func TestTooManyIsTheOnlyProblem(t *testing.T) {
	e := chain(t, 61)
	root := "m:"
	for i := range 20 {
		root += fmt.Sprintf("require x%c v1.0.0;", 'a'+i)
	}
	lay(t, e, root, "xa v1.2.0: require xb v1.0.0; require y v1.0.0", "xb v1.2.0: require xa v1.0.0")
	checkAnswer(t, e, "m | 9 | m")
	lay(t, e, strings.ReplaceAll(root, "require xt v1.0.0;", ""))
	a := e.Answer()
	if len(a.Modules) != 20 || a.Problems[len(a.Problems)-1] != (api.Problem{Kind: api.Cycle, Path: "xa", Version: "xa xb"}) {
		t.Errorf("P14, P15: with 58 nodes Answer() = %s", told(a))
	}
}

// needing is an engine in which each module needs what is said: "b: c d" ..; the root m requires them all.
func needing(t *testing.T, needs ...string) *pinset.Engine {
	t.Helper()
	e := built(t, "root m")
	root := "m:"
	for _, n := range needs {
		path, all, _ := strings.Cut(n, ":")
		lines := ""
		for _, other := range strings.Fields(all) {
			lines += "require " + other + " v1.0.0;"
		}
		lay(t, e, "index "+path+" v1.0.0", path+" v1.0.0:"+lines)
		root += "require " + path + " v1.0.0;"
	}
	lay(t, e, root)
	return e
}

func TestOrderOfGroups(t *testing.T) {
	for _, c := range []struct {
		needs           string
		problems, order string
	}{
		{"a:, b:, c:", "", "a b c m"},
		{"a: b, b: c, c:", "", "c b a m"},
		{"a: z, b:, z:", "", "b z a m"},
		{"z: a, a:, n:", "", "a n z m"},
		{"a: a, b: b", "", "a b m"},
		{"a: b, b: a", "10 a a b", "a b m"},
		{"a: b, b: c, c: a", "10 a a b c", "a b c m"},
		{"a: z, z: b, b: a, c:", "10 a a b z", "a b z c m"},
		{"a: d, b: c, c: b, d:", "10 b b c", "b c d a m"},
		{"a: c, b: d, c: a, d: b", "10 a a c, 10 b b d", "a c b d m"},
		{"a: c b, b: d, c: a, d: b", "10 a a c, 10 b b d", "b d a c m"},
		{"a: c, c: a z, z: y, y: z, b:", "10 a a c, 10 y y z", "b y z a c m"},
		{"a: b, b: a c, c: d, d: c", "10 a a b, 10 c c d", "c d a b m"},
		{"a: b c, b: a, c: a, d: e, e: d f, f: e a", "10 a a b c, 10 d d e f", "a b c d e f m"},
		{"a: m b, b: m", "", "b a m"},
		{"a/b: a, a: ab, ab: a0, a0:", "", "a0 ab a a/b m"},
		{"a/b: a, a: a/b, a0: ab, ab: a0", "10 a a a/b, 10 a0 a0 ab", "a a/b a0 ab m"},
		{"z: y, y: x, x: w, w: z, a: z", "10 w w x y z", "w x y z a m"},
	} {
		a := needing(t, strings.Split(c.needs, ", ")...).Answer()
		parts := strings.Split(told(a), "|")
		if strings.TrimSpace(parts[1]) != c.problems || strings.TrimSpace(parts[2]) != c.order {
			t.Errorf("P15: of %s Answer() = %s, want %s | %s", c.needs, told(a), c.problems, c.order)
		}
	}
}

// What another version wants makes no group, and no need.
func TestNeedsAreOfTheListsVersions(t *testing.T) {
	e := built(t, "root m", "m: require a v1.0.0; require b v1.0.0", "index a v1.0.0 v2.0.0", "index b v1.0.0", "a v1.0.0: require b v1.0.0", "b v1.0.0: require a v2.0.0", "a v2.0.0:")
	checkAnswer(t, e, "a v2.0.0, b v1.0.0, m | | a b m")
	lay(t, e, "a v2.0.0: require b v1.0.0")
	checkAnswer(t, e, "a v2.0.0, b v1.0.0, m | 10 a a b | a b m")
	// A need is one of a path: the version may be another one than the list's.
	lay(t, e, "b v1.0.0: require a v1.0.0", "m: require a v2.0.0; require b v1.0.0")
	checkAnswer(t, e, "a v2.0.0, b v1.0.0, m | 10 a a b | a b m")
}

// The root comes when what it needs is there, be it ahead of others.
func TestRootAheadOfOthers(t *testing.T) {
	e := built(t, "root a", "a: require b v1.0.0; require c v1.0.0", "index b v1.0.0 v2.0.0", "index c v1.0.0", "index d v1.0.0", "b v1.0.0: require d v1.0.0", "c v1.0.0: require b v2.0.0", "b v2.0.0:", "d v1.0.0:")
	checkAnswer(t, e, "a, b v2.0.0, c v1.0.0, d v1.0.0 | | b c a d")
}

// An answer is the same however often it is asked for, and whatever becomes of its lists.
func TestAnswerListsAreNew(t *testing.T) {
	e := built(t, exampleWorld...)
	lay(t, e, "c v1.1.0: require b v1.0.0; require x v1.0.0; require y v1.0.0", "index y")
	const want = "a, b v1.0.0, c v1.1.0 | 5 x, 7 y v1.0.0, 10 b b c | b c a"
	kept := e.Answer()
	for range 3 {
		checkAnswer(t, e, want)
		a := e.Answer()
		overwrite(a.Modules, api.Module{Path: "!", Version: "!"})
		overwrite(a.Problems, api.Problem{Kind: -1})
		overwrite(a.Order, "!")
		if slices.ContainsFunc(a.Modules, func(m api.Module) bool { return m.Path != "!" }) {
			t.Errorf("P2: writing into Order and Problems changed Modules: %+v", a.Modules)
		}
		if told(kept) != want {
			t.Errorf("P2: writing into what came out changed what came out ahead: %s", told(kept))
		}
	}
	lay(t, e, "c v1.1.0:")
	checkAnswer(t, e, exampleAnswer)
	if told(kept) != want {
		t.Errorf("P2: an edit changed what came out ahead: %s", told(kept))
	}
}

// Nothing but the texts that are there counts: not the way that led to them, not the capacity.
func TestAnswerHangsOnTheTextsAlone(t *testing.T) {
	var reversed []string
	for _, w := range exampleWorld {
		reversed = append([]string{w}, reversed...)
	}
	for _, capacity := range []int{1, 2, 5, 5000} {
		e := newEngine(t, capacity)
		for _, words := range reversed {
			e.Answer()
			lay(t, e, words)
		}
		checkAnswer(t, e, exampleAnswer)
		lay(t, e, "root c", "c: require b v1.0.0", "b v1.0.0:")
		checkAnswer(t, e, "b v1.0.0, c | | b c")
		lay(t, e, "root a", "b v1.0.0: require c v1.1.0")
		e.DropManifest("c", "")
		checkAnswer(t, e, exampleAnswer)
	}
}

func TestEnginesHaveNothingInCommon(t *testing.T) {
	one, other := built(t, exampleWorld...), newEngine(t, 100)
	checkAnswer(t, other, "| 1 |")
	checkRevision(t, other, 0)
	lay(t, other, "root a", "a:")
	checkAnswer(t, other, "a | | a")
	checkAnswer(t, one, exampleAnswer)
	checkRevision(t, one, len(exampleWorld))
	one.SetRoot("")
	checkAnswer(t, other, "a | | a")
}

func TestEnginesAtTheSameTime(t *testing.T) {
	var all sync.WaitGroup
	for range 8 {
		all.Go(func() {
			for range 20 {
				e := built(t, exampleWorld...)
				checkAnswer(t, e, exampleAnswer)
				lay(t, e, "c v1.1.0: require b v1.0.0")
				checkAnswer(t, e, "a, b v1.0.0, c v1.1.0 | 10 b b c | b c a")
			}
		})
	}
	all.Wait()
}
