package pinset_test

import (
	"fmt"
	"math/rand"
	"slices"
	"strings"
	"testing"

	"pinset/api"
	"pinset/pinset"
)

// turned is a diff in words: "-a +b v1.0.0 | -2 b v1.0.0 +5 c | b a", with "stays" where Order does not move.
func turned(d api.Diff) string {
	var modules, problems []string
	for _, m := range d.Drop {
		modules = append(modules, strings.TrimSpace("-"+m.Path+" "+m.Version))
	}
	for _, m := range d.Add {
		modules = append(modules, strings.TrimSpace("+"+m.Path+" "+m.Version))
	}
	for _, p := range d.Gone {
		problems = append(problems, strings.TrimSpace(fmt.Sprint("-", p.Kind, " ", p.Path, " ", p.Version)))
	}
	for _, p := range d.Come {
		problems = append(problems, strings.TrimSpace(fmt.Sprint("+", p.Kind, " ", p.Path, " ", p.Version)))
	}
	order := "stays"
	if d.Moved {
		order = strings.Join(d.Order, " ")
	}
	all := strings.Join(modules, " ") + " | " + strings.Join(problems, " ") + " | " + order
	return strings.TrimSpace(strings.ReplaceAll(all, "|  |", "| |"))
}

func checkDiff(t *testing.T, e *pinset.Engine, want string) {
	t.Helper()
	d := e.Diff()
	if got := turned(d); got != want {
		t.Errorf("P17: Diff() = %s, want %s", got, want)
	}
	if !d.Moved && d.Order != nil {
		t.Errorf("P17: Diff() has the Order %q, which is not nil, though it has not moved", d.Order)
	}
}

const noDiff = "| | stays"

func TestDiffs(t *testing.T) {
	e := newEngine(t, 5000)
	for _, c := range []struct{ edits, want string }{
		{"", "| +1 | stays"},
		{"", noDiff},
		{"index b v1.0.0 v2.0.0", noDiff},
		{"root a", "+a | -1 +2 a | a"},
		{"a: require b v1.0.0", "+b v1.0.0 | -2 a +2 b v1.0.0 | b a"},
		{"b v1.0.0:", "| -2 b v1.0.0 | stays"},
		{"b v1.0.0: # the same", noDiff},
		{"b v2.0.0: / a: require b v2.0.0", "-b v1.0.0 +b v2.0.0 | | stays"},
		{"index c v1.0.0 / c v1.0.0: / b v2.0.0: require c v1.0.0; require d v1.0.0", "+c v1.0.0 | +5 d | c b a"},
		{"c v1.0.0: require b v1.0.0", "| +10 b b c | b c a"},
		{"b v2.0.0: require c v1.0.0; require e v1.0.0 / index c v1.0.0 v1.1.0", "| -5 d +5 e | stays"},
		{"c v1.1.0: / b v2.0.0: require c v1.1.0", "-c v1.0.0 +c v1.1.0 | -5 e -10 b b c | c b a"},
		{"index d v1.0.0 / a: require b v2.0.0; require d v1.0.0", "+d v1.0.0 | +2 d v1.0.0 | c b d a"},
		{"root b / b: require d v1.0.0; require a v1.0.0; require c v1.0.0", "-a -b v2.0.0 -c v1.1.0 +b +c v1.0.0 | +5 a | c d b"},
		{"root", "-b -c v1.0.0 -d v1.0.0 | -2 d v1.0.0 -5 a +1 |"},
		{"root a", "+a +b v2.0.0 +c v1.1.0 +d v1.0.0 | -1 +2 d v1.0.0 | c b d a"},
	} {
		for _, words := range strings.Split(c.edits, " / ") {
			if words != "" {
				lay(t, e, words)
			}
		}
		checkDiff(t, e, c.want)
		checkDiff(t, e, noDiff)
	}
}

// At first nothing was in it: all that the answer has is new.
func TestTheFirstDiff(t *testing.T) {
	e := built(t, exampleWorld...)
	checkDiff(t, e, "+a +b v1.0.0 +c v1.1.0 | | c b a")
	e = built(t, exampleWorld...)
	lay(t, e, "c v1.1.0: require b v1.0.0; require x v1.0.0")
	checkAnswer(t, e, "a, b v1.0.0, c v1.1.0 | 5 x, 10 b b c | b c a")
	checkDiff(t, e, "+a +b v1.0.0 +c v1.1.0 | +5 x +10 b b c | b c a")
	e = newEngine(t, 1)
	layChain(t, e, 61)
	checkDiff(t, e, "+m | +9 | m")
}

// What has changed is told since the last Diff, whatever was answered, edited and edited back in between.
func TestDiffCountsFromTheLastDiff(t *testing.T) {
	e := built(t, exampleWorld...)
	checkDiff(t, e, "+a +b v1.0.0 +c v1.1.0 | | c b a")
	lay(t, e, "c v1.1.0: require b v1.0.0")
	checkAnswer(t, e, "a, b v1.0.0, c v1.1.0 | 10 b b c | b c a")
	checkAnswer(t, e, "a, b v1.0.0, c v1.1.0 | 10 b b c | b c a")
	checkDiff(t, e, "| +10 b b c | b c a")
	lay(t, e, "root")
	checkAnswer(t, e, "| 1 |")
	lay(t, e, "c v1.1.0:", "root a")
	checkAnswer(t, e, exampleAnswer)
	lay(t, e, "c v1.1.0: require b v1.0.0")
	checkDiff(t, e, noDiff)
	e.SetRoot("A")
	e.PutIndex("c/", "version v1.0.0")
	e.PutManifest("b", "v1", "module b")
	checkDiff(t, e, noDiff)
	lay(t, e, "a: require b v1.0.0", "b v1.0.0:")
	lay(t, e, "a: require c v1.0.0")
	checkDiff(t, e, "-b v1.0.0 -c v1.1.0 +c v1.0.0 | -10 b b c | c a")
}

// A problem is another one if only its version is, and so is a module.
func TestDiffTellsVersionsApart(t *testing.T) {
	e := built(t, "root a", "a: require b v1.0.0; require c v1.0.0", "index b v0.1.0", "index c v1.0.0 v1.0.0-a")
	checkDiff(t, e, "+a +c v1.0.0 | +2 c v1.0.0 +7 b v1.0.0 | c a")
	lay(t, e, "a: require b v1.0.1; require c v1.0.0-a")
	checkDiff(t, e, "-c v1.0.0 +c v1.0.0-a | -2 c v1.0.0 -7 b v1.0.0 +2 c v1.0.0-a +7 b v1.0.1 | stays")
}

func TestDiffListsAreNew(t *testing.T) {
	e := built(t, exampleWorld...)
	lay(t, e, "c v1.1.0: require b v1.0.0; require x v1.0.0")
	kept := e.Diff()
	const want = "+a +b v1.0.0 +c v1.1.0 | +5 x +10 b b c | b c a"
	spoil := func(d api.Diff) {
		overwrite(d.Drop, api.Module{Path: "!", Version: "!"})
		overwrite(d.Add, api.Module{Path: "?", Version: "?"})
		overwrite(d.Gone, api.Problem{Kind: -1})
		overwrite(d.Come, api.Problem{Kind: -2})
		overwrite(d.Order, "!")
	}
	lay(t, e, "root")
	spoil(e.Diff())
	lay(t, e, "root a")
	d := e.Diff()
	spoil(d)
	if slices.ContainsFunc(d.Add, func(m api.Module) bool { return m.Path != "?" }) {
		t.Errorf("P2: writing into one list of a Diff changed another: %+v", d)
	}
	if turned(kept) != want {
		t.Errorf("P2: writing into what came out changed what came out ahead: %s", turned(kept))
	}
	checkDiff(t, e, noDiff)
	checkAnswer(t, e, "a, b v1.0.0, c v1.1.0 | 5 x, 10 b b c | b c a")
	a := e.Answer()
	overwrite(a.Modules, api.Module{})
	overwrite(a.Problems, api.Problem{})
	overwrite(a.Order, "")
	checkDiff(t, e, noDiff)
	lay(t, e, "root")
	checkDiff(t, e, "-a -b v1.0.0 -c v1.1.0 | -5 x -10 b b c +1 |")
	if turned(kept) != want {
		t.Errorf("P2: an edit changed what came out ahead: %s", turned(kept))
	}
}

func TestDiffsOfTwoEngines(t *testing.T) {
	one, other := built(t, exampleWorld...), built(t, exampleWorld...)
	checkDiff(t, one, "+a +b v1.0.0 +c v1.1.0 | | c b a")
	checkDiff(t, other, "+a +b v1.0.0 +c v1.1.0 | | c b a")
	lay(t, one, "root")
	checkDiff(t, other, noDiff)
	checkDiff(t, one, "-a -b v1.0.0 -c v1.1.0 | +1 |")
}

// lacking is the elements of a list that another has not.
func lacking[T comparable](list, other []T) []T {
	there := map[T]bool{}
	for _, x := range other {
		there[x] = true
	}
	var rest []T
	for _, x := range list {
		if !there[x] {
			rest = append(rest, x)
		}
	}
	return rest
}

func diffOf(old, next api.Answer) api.Diff {
	d := api.Diff{Drop: lacking(old.Modules, next.Modules), Add: lacking(next.Modules, old.Modules), Gone: lacking(old.Problems, next.Problems), Come: lacking(next.Problems, old.Problems)}
	if !slices.Equal(old.Order, next.Order) {
		d.Moved, d.Order = true, next.Order
	}
	return d
}

// Whatever is answered and forgotten in between, a Diff tells what has changed since the last one.
func TestDrawnDiffs(t *testing.T) {
	draw := rand.New(rand.NewSource(17))
	moved, still := 0, 0
	for range 40 {
		w := newTwin(t, 1+draw.Intn(50))
		var ahead api.Answer
		w.setRoot(pick(draw, "a", "b", "c"))
		for range 120 {
			w.drawEdit(draw)
			switch draw.Intn(6) {
			case 0:
				w.checkAnswer()
			case 1:
				w.engine.Evict(draw.Intn(100) - 50)
			case 2, 3:
				now := w.model.answer()
				if got, want := turned(w.engine.Diff()), turned(diffOf(ahead, now)); got != want {
					t.Fatalf("P17: Diff() = %s, want %s", got, want)
				}
				if slices.Equal(ahead.Order, now.Order) {
					still++
				} else {
					moved++
				}
				ahead = now
			}
		}
	}
	if moved < 100 || still < 100 {
		t.Errorf("of the drawn orders %d moved and %d did not", moved, still)
	}
}
