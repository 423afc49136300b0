package pinset_test

import (
	"fmt"
	"math/rand"
	"strings"
	"testing"

	"pinset/api"
	"pinset/pinset"
)

func less(n, was api.Counts) api.Counts {
	return api.Counts{Manifests: n.Manifests - was.Manifests, Indexes: n.Indexes - was.Indexes, Wants: n.Wants - was.Wants, Lists: n.Lists - was.Lists, Orders: n.Orders - was.Orders}
}

// spent is what an Answer works out, and then a Diff and an Answer, for which nothing is left to do.
func spent(t *testing.T, e *pinset.Engine) api.Counts {
	t.Helper()
	was := e.Counts()
	e.Answer()
	n := e.Counts()
	e.Diff()
	e.Answer()
	if again := e.Counts(); again != n {
		t.Errorf("P18: though nothing has changed, %+v were worked out", less(again, n))
	}
	return less(n, was)
}

func checkSpent(t *testing.T, e *pinset.Engine, what string, want api.Counts) {
	t.Helper()
	if got := spent(t, e); got != want {
		t.Errorf("P18: %s: worked out %+v, want %+v", what, got, want)
	}
}

func TestNothingIsWorkedOutUnasked(t *testing.T) {
	e := built(t, exampleWorld...)
	e.DropManifest("c", "v1.0.0")
	e.PutIndex("c/", "")
	e.Revision()
	e.Resident()
	e.Evict(0)
	if n := e.Counts(); n != (api.Counts{}) {
		t.Errorf("P18: ahead of the first answer %+v were worked out", n)
	}
}

// Each row's edits follow those of the rows ahead.
func TestCounts(t *testing.T) {
	e := newEngine(t, 5000)
	for _, c := range []struct {
		edits string
		want  api.Counts
	}{
		{"", api.Counts{Lists: 1, Orders: 1}},
		{"root a", api.Counts{Manifests: 1, Wants: 1, Lists: 1, Orders: 1}},
		{"a: require b v1.0.0; require c v1.0.0", api.Counts{Manifests: 1, Indexes: 2, Wants: 1, Lists: 1, Orders: 1}},
		{"index b v1.0.0 / index c v1.0.0 v1.1.0 / b v1.0.0: require c v1.1.0 / c v1.0.0: / c v1.1.0:", api.Counts{Manifests: 3, Indexes: 2, Wants: 4, Lists: 1, Orders: 1}},
		{"a: require b v1.0.0; require c v1.0.0", api.Counts{}},
		// The same in other words.
		{"a: require c v1.0.0 # c; ;require b v1.0.0", api.Counts{Manifests: 1}},
		{"b v1.0.0: #; require\tc  v1.1.0;", api.Counts{Manifests: 1}},
		{"c v1.1.0: # nothing", api.Counts{Manifests: 1}},
		{"index c v1.1.0 v1.0.0", api.Counts{Indexes: 1}},
		{"index c v1.0.0 v1.1.0 / index c v1.1.0 v1.0.0", api.Counts{}},
		// Texts that nothing asks for.
		{"index a v1.0.0 / index d v1.0.0 / b: / d: / b v2.0.0: / d v1.0.0: require a v1.0.0", api.Counts{}},
		// Something else that leads to the same.
		{"index c v1.1.0 v1.0.0 v1.2.0", api.Counts{Indexes: 1, Wants: 2}},
		{"b v1.0.0: require c v1.1.0; exclude c v1.1.0", api.Counts{Manifests: 1, Wants: 1}},
		{"b v1.0.0: require c v1.1.0; require a v1.0.0", api.Counts{Manifests: 1, Wants: 1}},
		{"a: require b v1.0.0; require c v1.0.0; exclude d v1.0.0", api.Counts{Manifests: 1, Wants: 4}},
		{"a: require b v1.0.0; require c v1.0.0; replace c v1.1.0 => v1.1.0", api.Counts{Manifests: 1, Wants: 4}},
		// Problems and wants of a node that is not in the list.
		{"c v1.0.0: require x v1.0.0", api.Counts{Manifests: 1, Indexes: 1, Wants: 1, Lists: 1}},
		{"index x v2.0.0", api.Counts{Indexes: 1, Wants: 1, Lists: 1}},
		{"c v1.0.0: require b v1.0.0", api.Counts{Manifests: 1, Wants: 1, Lists: 1}},
		// Another list or other needs.
		{"c v1.1.0: require b v1.0.0", api.Counts{Manifests: 1, Wants: 1, Lists: 1, Orders: 1}},
		{"c v1.2.0: / b v1.0.0: require c v1.2.0", api.Counts{Manifests: 2, Wants: 2, Lists: 1, Orders: 1}},
		{"b v1.0.0: require c v1.1.0", api.Counts{Manifests: 1, Wants: 1, Lists: 1, Orders: 1}},
		// Roots.
		{"root", api.Counts{Lists: 1, Orders: 1}},
		{"root a", api.Counts{Lists: 1, Orders: 1}},
		{"root b / root a", api.Counts{}},
		{"root b", api.Counts{Wants: 1, Lists: 1, Orders: 1, Manifests: 1}},
		{"b: require c v1.0.0", api.Counts{Manifests: 1, Wants: 2, Lists: 1, Orders: 1}},
		{"root a", api.Counts{Wants: 1, Lists: 1, Orders: 1}},
	} {
		for _, words := range strings.Split(c.edits, " / ") {
			if words != "" {
				lay(t, e, words)
			}
		}
		checkSpent(t, e, c.edits, c.want)
	}
}

// A manifest that is asked for as a root's, for what it wants and as a replacement of several is read once.
func TestNothingIsWorkedOutTwice(t *testing.T) {
	e := newEngine(t, 5000)
	lay(t, e, "root a", "a: require b v1.0.0; require c v1.0.0; replace b v1.0.0 => v3.0.0; replace b v2.0.0 => v3.0.0; replace c v1.0.0 => v9.0.0", "index b v1.0.0 v2.0.0 v3.0.0", "index c v1.0.0", "b v3.0.0: require b v2.0.0; require x v1.0.0; require c v1.0.0")
	checkSpent(t, e, "with replacements", api.Counts{Manifests: 3, Indexes: 3, Wants: 4, Lists: 1, Orders: 1})
	checkAnswer(t, e, "a, b v2.0.0, c v1.0.0 | 2 c v9.0.0, 5 x | c b a")
	lay(t, e, "b v3.0.0: require b v3.0.0; require b v2.0.0")
	checkSpent(t, e, "the replacement has slips, and leads to nothing else", api.Counts{Manifests: 1, Wants: 1, Lists: 1, Orders: 1})
}

// Texts with slips say nothing else, whichever they are.
func TestCountsOfFaultyTexts(t *testing.T) {
	e := newEngine(t, 5000)
	lay(t, e, exampleWorld...)
	spent(t, e)
	e.PutManifest("c", "v1.0.0", "odd")
	checkSpent(t, e, "a manifest with slips", api.Counts{Manifests: 1, Wants: 1, Lists: 1})
	e.PutManifest("c", "v1.0.0", padded("module c\n", 2001))
	checkSpent(t, e, "a manifest with other slips", api.Counts{Manifests: 1})
	e.DropManifest("c", "v1.0.0")
	checkSpent(t, e, "a manifest that is gone", api.Counts{Manifests: 1, Wants: 1, Lists: 1})
	e.PutManifest("c", "v1.0.0", "module c")
	e.DropManifest("c", "v1.0.0")
	checkSpent(t, e, "a manifest that was there in between", api.Counts{})
	e.PutIndex("c", "odd")
	checkSpent(t, e, "an index with slips", api.Counts{Indexes: 1, Wants: 2, Lists: 1, Orders: 1})
	e.PutIndex("c", "version v1.0.0 v1.1.0")
	checkSpent(t, e, "an index with other slips", api.Counts{Indexes: 1})
	e.DropIndex("c")
	checkSpent(t, e, "an index that is gone", api.Counts{Indexes: 1, Wants: 2, Lists: 1, Orders: 1})
}

func TestCountsWithTooManyNodes(t *testing.T) {
	e := newEngine(t, 5000)
	layChain(t, e, 61)
	n := spent(t, e)
	if n.Manifests > 61 || n.Indexes > 20 || n.Wants > 61 || n.Lists != 1 || n.Orders != 1 {
		t.Errorf("P18: with 61 nodes %+v were worked out", n)
	}
	lay(t, e, "m v1.0.0: require xa v1.0.0", "index z v1.0.0", "xa v9.0.0:")
	checkSpent(t, e, "texts that nothing asks for", api.Counts{})
	lay(t, e, "index xa v1.2.0 v1.1.0 v1.0.0")
	checkSpent(t, e, "an index in another order", api.Counts{Indexes: 1})
	checkAnswer(t, e, "m | 9 | m")
}

// layWide lays a root down that reaches 60 nodes, each of which but the root asks for 19 indexes of its own that are not there.
// It needs 60 manifests, 20 + 59 * 19 indexes, what 60 nodes want, the list and the order: 1263 things.
func layWide(t *testing.T, e *pinset.Engine) {
	t.Helper()
	root := "m:"
	for i := range 20 {
		path := "x" + string(rune('a'+i))
		lay(t, e, "index "+path+" v1.0.0 v1.1.0 v1.2.0")
		for j := range min(3, 59-3*i) {
			text := fmt.Sprintf("%s v1.%d.0:", path, j)
			if j < min(3, 59-3*i)-1 {
				text += fmt.Sprintf("require %s v1.%d.0", path, j+1)
			}
			for k := range 19 {
				text += fmt.Sprintf("; require y/%s%d/n%d v1.0.0", path, j, k)
			}
			lay(t, e, text)
		}
		root += "require " + path + " v1.0.0;"
	}
	lay(t, e, "root m", root)
}

func TestCountsOfAWideAnswer(t *testing.T) {
	e := newEngine(t, 5000)
	layWide(t, e)
	checkSpent(t, e, "the first answer", api.Counts{Manifests: 60, Indexes: 1141, Wants: 60, Lists: 1, Orders: 1})
	checkResident(t, e, "the first answer", 1263)
	lay(t, e, "index z v1.0.0")
	checkSpent(t, e, "a text that nothing asks for", api.Counts{})
	lay(t, e, "index xa v1.2.0 v1.1.0 v1.0.0")
	checkSpent(t, e, "an index in another order", api.Counts{Indexes: 1})
	e.DropIndex("xt")
	checkSpent(t, e, "an index that is gone, and what was reached over it", api.Counts{Indexes: 1, Wants: 1, Lists: 1, Orders: 1})
	checkResident(t, e, "an index that is gone", 1263)
}

// inOtherWords says what a text says, or says nothing, as that does.
func inOtherWords(draw *rand.Rand, text string) string {
	lines := strings.Split(text, "\n")
	for i := range lines {
		lines[i] = pick(draw, "", " ", "\t") + strings.Join(strings.Fields(lines[i]), pick(draw, " ", "\t", "  ")) + pick(draw, "", " # x", "#", " ")
	}
	if len(lines) > 1 {
		rest := lines[1:]
		draw.Shuffle(len(rest), func(i, j int) { rest[i], rest[j] = rest[j], rest[i] })
	}
	return pick(draw, "", "\n", "# first\n") + strings.Join(lines, pick(draw, "\n", "\n", "\n\n")) + pick(draw, "", "\n", "\n#")
}

// counted is a twin and a ledger of what its answers work out.
type counted struct {
	twin
	ledger *ledger
}

func newCounted(t *testing.T) counted {
	w := newTwin(t, 5000)
	return counted{w, newLedger(w.model)}
}

// checkAsked asks for an Answer or a Diff, and holds what it works out against the ledger.
func (w counted) checkAsked(draw *rand.Rand) api.Counts {
	w.t.Helper()
	was := w.engine.Counts()
	if draw.Intn(2) == 0 {
		w.engine.Diff()
	} else {
		w.checkAnswer()
	}
	now, before := w.engine.Counts(), w.ledger.counts
	w.ledger.answer()
	if now != w.ledger.counts {
		w.t.Fatalf("P18: worked out %+v, want %+v, of root %q, manifests %q, indexes %q", less(now, was), less(w.ledger.counts, before), w.model.root, w.model.manifests, w.model.indexes)
	}
	if n := w.engine.Resident(); n != len(w.ledger.pages) {
		w.t.Fatalf("P19: Resident() = %d where %d things were worked out", n, len(w.ledger.pages))
	}
	return less(now, was)
}

func TestDrawnCounts(t *testing.T) {
	draw := rand.New(rand.NewSource(18))
	for range 40 {
		w := newCounted(t)
		w.setRoot(pick(draw, "a", "b", "c"))
		for range 100 {
			for range 1 + draw.Intn(1+draw.Intn(10)) {
				w.drawEdit(draw)
			}
			w.checkAsked(draw)
			if n := w.checkAsked(draw); n != (api.Counts{}) {
				t.Fatalf("P18: though nothing has changed, %+v were worked out", n)
			}
		}
	}
}

// anyOf is one of a map's keys, drawn.
func anyOf[K comparable, V any](draw *rand.Rand, m map[K]V, compare func(a, b K) int) K {
	keys := keysOf(m)
	var none K
	if len(keys) == 0 {
		return none
	}
	best := keys[0]
	at := draw.Intn(len(keys))
	for _, k := range keys {
		rank := 0
		for _, other := range keys {
			if compare(other, k) < 0 {
				rank++
			}
		}
		if rank == at {
			best = k
		}
	}
	return best
}

func TestDrawnTextsInOtherWords(t *testing.T) {
	draw := rand.New(rand.NewSource(19))
	tried := map[api.Counts]int{}
	for range 30 {
		w := newCounted(t)
		w.setRoot(pick(draw, "a", "b"))
		for range 40 {
			for range 4 {
				w.drawEdit(draw)
			}
			w.checkAsked(draw)
			m := anyOf(draw, w.model.manifests, func(a, b api.Module) int { return strings.Compare(fmt.Sprint(a), fmt.Sprint(b)) })
			said := w.model.manifestSays(m)
			old := w.model.manifests[m]
			w.putManifest(m.Path, m.Version, inOtherWords(draw, old))
			if w.model.manifestSays(m) != said {
				w.putManifest(m.Path, m.Version, old)
			}
			n := w.checkAsked(draw)
			if n != (api.Counts{}) && n != (api.Counts{Manifests: 1}) {
				t.Fatalf("P18: of %q in other words %+v were worked out", old, n)
			}
			tried[n]++
			x := anyOf(draw, w.model.indexes, strings.Compare)
			said, old = w.model.indexSays(x), w.model.indexes[x]
			w.putIndex(x, inOtherWords(draw, old))
			if w.model.indexSays(x) != said {
				w.putIndex(x, old)
			}
			n = w.checkAsked(draw)
			if n != (api.Counts{}) && n != (api.Counts{Indexes: 1}) {
				t.Fatalf("P18: of %q in other words %+v were worked out", old, n)
			}
			tried[n]++
		}
	}
	if len(tried) != 3 || tried[api.Counts{Manifests: 1}] < 50 || tried[api.Counts{Indexes: 1}] < 50 {
		t.Errorf("the drawn texts led to these counts alone: %v", tried)
	}
}

func TestDrawnTextsThatAreNotNeeded(t *testing.T) {
	draw := rand.New(rand.NewSource(20))
	changed := 0
	for range 30 {
		w := newCounted(t)
		w.setRoot(pick(draw, "a", "b"))
		for range 40 {
			for range 4 {
				w.drawEdit(draw)
			}
			w.checkAsked(draw)
			at := w.model.revision
			for range 10 {
				path, version := drawPath(draw), drawTextVersion(draw)
				if !w.ledger.needed[thing{"manifest", path, version}] {
					w.putManifest(path, version, drawManifest(draw, path))
				}
				if path := drawPath(draw); !w.ledger.needed[indexThing(path)] {
					w.putIndex(path, drawIndex(draw))
				}
				if path, version := drawPath(draw), drawTextVersion(draw); !w.ledger.needed[thing{"manifest", path, version}] {
					w.dropManifest(path, version)
				}
			}
			changed += w.model.revision - at
			if n := w.checkAsked(draw); n != (api.Counts{}) {
				t.Fatalf("P18: of texts that the last answer did not need %+v were worked out", n)
			}
		}
	}
	if changed < 1000 {
		t.Errorf("the drawn edits changed %d texts alone", changed)
	}
}
