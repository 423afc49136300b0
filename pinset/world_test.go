package pinset_test

import (
	"fmt"
	"math/rand"
	"slices"
	"strings"
	"testing"

	"pinset/api"
	"pinset/pinset"
)

func newEngine(t *testing.T, capacity int) *pinset.Engine {
	t.Helper()
	e, x := pinset.New(capacity)
	if e == nil || x != api.OK {
		t.Fatalf("P10: New(%d) gives an engine: %t, and %d", capacity, e != nil, x)
	}
	return e
}

func sameAnswer(a, b api.Answer) bool {
	return slices.Equal(a.Modules, b.Modules) && slices.Equal(a.Problems, b.Problems) && slices.Equal(a.Order, b.Order)
}

// twin is an engine and its model, which get the same calls.
type twin struct {
	t      *testing.T
	engine *pinset.Engine
	model  *world
}

func newTwin(t *testing.T, capacity int) twin {
	t.Helper()
	return twin{t, newEngine(t, capacity), newWorld()}
}

func (w twin) putManifest(path, version, text string) {
	w.t.Helper()
	w.check(fmt.Sprintf("PutManifest(%q, %q, %.99q)", path, version, text), w.engine.PutManifest(path, version, text), w.model.putManifest(path, version, text))
}

func (w twin) dropManifest(path, version string) {
	w.t.Helper()
	w.check(fmt.Sprintf("DropManifest(%q, %q)", path, version), w.engine.DropManifest(path, version), w.model.dropManifest(path, version))
}

func (w twin) putIndex(path, text string) {
	w.t.Helper()
	w.check(fmt.Sprintf("PutIndex(%q, %.99q)", path, text), w.engine.PutIndex(path, text), w.model.putIndex(path, text))
}

func (w twin) dropIndex(path string) {
	w.t.Helper()
	w.check(fmt.Sprintf("DropIndex(%q)", path), w.engine.DropIndex(path), w.model.dropIndex(path))
}

func (w twin) setRoot(path string) {
	w.t.Helper()
	w.check(fmt.Sprintf("SetRoot(%q)", path), w.engine.SetRoot(path), w.model.setRoot(path))
}

func (w twin) check(call string, got, want api.Errno) {
	w.t.Helper()
	if got != want {
		w.t.Fatalf("P11: %s = %d, want %d", call, got, want)
	}
	if n := w.engine.Revision(); n != w.model.revision {
		w.t.Fatalf("P12: Revision() = %d behind %s, want %d", n, call, w.model.revision)
	}
}

func (w twin) checkAnswer() api.Answer {
	w.t.Helper()
	a, want := w.engine.Answer(), w.model.answer()
	if !sameAnswer(a, want) {
		w.t.Fatalf("P13 to P16: Answer() = %+v, want %+v, of root %q, manifests %q, indexes %q", a, want, w.model.root, w.model.manifests, w.model.indexes)
	}
	return a
}

// drawPath and its like draw from so few that edits meet each other's texts.
func drawPath(draw *rand.Rand) string {
	if draw.Intn(60) == 0 {
		return pick(draw, "", "A", "a/", "a/b/c/d", "abcdefghi", "a ", "\xff")
	}
	return pick(draw, "a", "a/b", "b", "c", "d", "e0")
}

func drawFewVersions(draw *rand.Rand) string {
	return pick(draw, "v1.0.0", "v1.0.0", "v1.1.0", "v1.1.0-a", "v1.10.0", "v2.0.0")
}

func drawTextVersion(draw *rand.Rand) string {
	switch draw.Intn(60) {
	case 0:
		return pick(draw, "v1", "x", "v1.0.0 ", "v01.0.0", " ")
	case 1, 2, 3, 4, 5, 6:
		return ""
	}
	return drawFewVersions(draw)
}

func drawManifest(draw *rand.Rand, path string) string {
	switch draw.Intn(25) {
	case 0:
		return pick(draw, "", "module", "require a v1.0.0", "#", "module a b", strings.Repeat(" ", 2001))
	case 1:
		path = drawPath(draw)
	}
	lines := []string{"module " + path}
	for range draw.Intn(5) {
		lines = append(lines, "require "+pick(draw, "a", "a/b", "b", "c", "d", "e0", "e1")+" "+drawFewVersions(draw))
	}
	for range draw.Intn(4) {
		lines = append(lines, "exclude "+drawPath(draw)+" "+drawFewVersions(draw))
	}
	for range draw.Intn(4) {
		lines = append(lines, "replace "+drawPath(draw)+" "+drawFewVersions(draw)+" => "+drawFewVersions(draw))
	}
	return strings.Join(withoutSlips(lines), "\n")
}

// withoutSlips leaves lines out that say again what is said, so that most texts say something.
func withoutSlips(lines []string) []string {
	var kept []string
	for _, line := range lines {
		if len(slipsOf(strings.Join(append(slices.Clone(kept), line), "\n"), manifestLineForms, true)) == 0 {
			kept = append(kept, line)
		}
	}
	return kept
}

func drawIndex(draw *rand.Rand) string {
	if draw.Intn(20) == 0 {
		return pick(draw, "", "#", "version", "version v1.0.0\nversion v1.0.0", "v1.0.0", strings.Repeat("\n", 2001))
	}
	text := ""
	for _, v := range []string{"v1.0.0", "v2.0.0", "v1.1.0", "v1.10.0", "v1.1.0-a", "v0.9.0"} {
		if draw.Intn(5) > 0 {
			text = pick(draw, text+"version "+v+"\n", "version "+v+"\n"+text)
		}
	}
	return text
}

func (w twin) drawEdit(draw *rand.Rand) {
	w.t.Helper()
	path := drawPath(draw)
	switch n := draw.Intn(100); {
	case n < 60:
		w.putManifest(path, drawTextVersion(draw), drawManifest(draw, path))
	case n < 65:
		w.dropManifest(path, drawTextVersion(draw))
	case n < 90:
		w.putIndex(path, drawIndex(draw))
	case n < 92:
		w.dropIndex(path)
	case n < 95:
		w.setRoot(pick(draw, path, path, path, ""))
	default:
		w.putManifest(w.model.root, "", drawManifest(draw, w.model.root))
	}
}

// The drawn worlds must come by all that the document tells apart, or they would prove little.
func TestDrawnWorlds(t *testing.T) {
	draw := rand.New(rand.NewSource(8))
	kinds := map[int]int{}
	longest := 0
	for range 60 {
		w := newTwin(t, 1+draw.Intn(50))
		w.setRoot(pick(draw, "a", "b", "c"))
		for range 150 {
			w.drawEdit(draw)
			if draw.Intn(3) > 0 {
				continue
			}
			a := w.checkAnswer()
			longest = max(longest, len(a.Modules))
			for _, p := range a.Problems {
				kinds[p.Kind]++
			}
		}
	}
	for kind := api.NoRoot; kind <= api.Cycle; kind++ {
		if kinds[kind] < 10 && kind != api.TooMany {
			t.Errorf("the drawn worlds came by the problem %d %d times alone", kind, kinds[kind])
		}
	}
	if longest < 6 {
		t.Errorf("the drawn worlds have build lists of %d modules at most", longest)
	}
}

// Worlds in which about as many nodes are reached as may be.
func TestDrawnWorldsAtTheBound(t *testing.T) {
	draw := rand.New(rand.NewSource(9))
	sizes := map[bool]int{}
	for range 20 {
		w := newTwin(t, 10)
		w.setRoot("m")
		paths := 21
		version := func() string { return fmt.Sprintf("v1.%d.0", draw.Intn(4)) }
		path := func() string { return "x" + string(rune('a'+draw.Intn(paths))) }
		for i := range paths {
			w.putIndex("x"+string(rune('a'+i)), "version v1.0.0\nversion v1.1.0\nversion v1.2.0\nversion v1.3.0")
		}
		for range 59 {
			p := path()
			lines := []string{"module " + p}
			for range draw.Intn(7) {
				lines = append(lines, "require "+path()+" "+version())
			}
			w.putManifest(p, version(), strings.Join(withoutSlips(lines), "\n"))
		}
		lines := []string{"module m"}
		for range 12 {
			lines = append(lines, "require "+path()+" "+version())
		}
		lines = withoutSlips(lines)
		for ; len(lines) > 1; lines = lines[:len(lines)-1] {
			w.putManifest("m", "", strings.Join(lines, "\n"))
			a := w.checkAnswer()
			sizes[slices.Contains(a.Problems, api.Problem{Kind: api.TooMany})]++
		}
	}
	if sizes[true] < 20 || sizes[false] < 20 {
		t.Errorf("too many nodes in %d worlds, not too many in %d", sizes[true], sizes[false])
	}
}

// Every way in which four modules can need each other, with the root's path among theirs.
func TestEveryOrderOfFour(t *testing.T) {
	paths := []string{"a", "b", "d", "e"}
	w := newTwin(t, 100)
	w.setRoot("c")
	w.putManifest("c", "", "module c\nrequire e v1.0.0\nrequire d v1.0.0\nrequire b v1.0.0\nrequire a v1.0.0")
	for _, p := range paths {
		w.putIndex(p, "version v1.0.0")
	}
	for bits := range 1 << 12 {
		bit := 0
		for _, p := range paths {
			text := "module " + p + "\nrequire c v1.0.0\nrequire " + p + " v1.0.0\n"
			for _, q := range paths {
				if p == q {
					continue
				}
				if bits>>bit&1 == 1 {
					text += "require " + q + " v1.0.0\n"
				}
				bit++
			}
			w.putManifest(p, "v1.0.0", text)
		}
		w.checkAnswer()
	}
}
