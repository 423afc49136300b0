package pinset_test

import (
	"fmt"
	"math"
	"math/rand"
	"testing"

	"pinset/api"
	"pinset/pinset"
)

func checkResident(t *testing.T, e *pinset.Engine, what string, want int) {
	t.Helper()
	if n := e.Resident(); n != want {
		t.Errorf("P19: %s: Resident() = %d, want %d", what, n, want)
	}
}

// Each thing counts once, be it of a text that is not there, or a list without modules.
func TestResident(t *testing.T) {
	e := newEngine(t, 5000)
	checkResident(t, e, "a new engine", 0)
	lay(t, e, "b v1.0.0:")
	checkResident(t, e, "no answer yet", 0)
	for _, c := range []struct {
		words string
		want  int
	}{
		{"index b v1.0.0", 2},              // the list, the order
		{"root a", 4},                      // what a's manifest says, what a wants
		{"a:", 4},                          // the same things, worked out anew
		{"a: require d v1.0.0", 5},         // d's index, which is not there
		{"a: require b v1.0.0", 8},         // b's index, what b's manifest says, what b wants; d's index is kept
		{"index b v1.0.0 v2.0.0", 8},       // the same things
		{"a: require b v2.0.0", 10},        // what b's other manifest, which is not there, says, and what it wants
		{"root c", 12},                     // what c's manifest, which is not there, says, and what it wants
		{"root", 12},                       // the list, the order
		{"root a", 12},                     // all is kept
		{"d v1.0.0: require x v1.0.0", 12}, // nothing is worked out
	} {
		lay(t, e, c.words)
		e.Answer()
		checkResident(t, e, c.words, c.want)
		e.Diff()
		checkResident(t, e, c.words+", once more", c.want)
	}
}

// The example's answer needs 12 things: no more of them are forgotten than must be.
func TestCapacity(t *testing.T) {
	for capacity := 1; capacity < 20; capacity++ {
		for _, isDiff := range []bool{false, true} {
			e := newEngine(t, capacity)
			lay(t, e, exampleWorld...)
			for range 3 {
				if isDiff {
					e.Diff()
				} else {
					checkAnswer(t, e, exampleAnswer)
				}
				checkResident(t, e, fmt.Sprint("a capacity of ", capacity), min(capacity, 12))
			}
		}
	}
	for _, capacity := range []int{1, 600, 1262, 1263, 1264} {
		e := newEngine(t, capacity)
		layWide(t, e)
		e.Answer()
		checkResident(t, e, fmt.Sprint("a capacity of ", capacity), min(capacity, 1263))
	}
	e := newEngine(t, math.MaxInt)
	lay(t, e, exampleWorld...)
	checkAnswer(t, e, exampleAnswer)
	checkResident(t, e, "the greatest capacity", 12)
}

func TestEvict(t *testing.T) {
	for _, n := range []int{0, 1, -1, 5, 11, 12, -12, 13, 1000, -1000, math.MaxInt, math.MinInt, math.MinInt + 1} {
		e := built(t, exampleWorld...)
		e.Evict(n)
		checkResident(t, e, "Evict of nothing", 0)
		checkDiff(t, e, "+a +b v1.0.0 +c v1.1.0 | | c b a")
		for left := 11; left >= 0; left-- {
			e.Evict(n)
			checkResident(t, e, fmt.Sprintf("Evict(%d)", n), left)
		}
		e.Evict(n)
		checkResident(t, e, "Evict of nothing", 0)
		checkAnswer(t, e, exampleAnswer)
		checkDiff(t, e, noDiff)
		checkResident(t, e, "an answer behind Evict", 12)
	}
}

// However many are forgotten, and whichever n names, the answer is that of the texts, and so is the Diff.
func TestNothingHangsOnWhatWasForgotten(t *testing.T) {
	edits := []string{"c v1.1.0: require b v1.0.0", "a: require c v1.0.0", "root c", "root", "index c v1.0.0", "b v1.0.0: require x v1.0.0", "b v1.0.0: require c v1.1.0 # the same"}
	for _, edit := range edits {
		fresh := built(t, exampleWorld...)
		lay(t, fresh, edit)
		want, turn := told(fresh.Answer()), ""
		for n := range 12 {
			for times := range 13 {
				e := built(t, exampleWorld...)
				e.Diff()
				for range times {
					e.Evict(n)
				}
				lay(t, e, edit)
				checkAnswer(t, e, want)
				d := turned(e.Diff())
				if turn == "" {
					turn = d
				}
				if d != turn {
					t.Errorf("P19: behind %d times Evict(%d) and %s Diff() = %s, want %s", times, n, edit, d, turn)
				}
			}
		}
	}
}

// otherRoot is a root beside that of the example. Its answer needs 8 things, of which the example's needs three: c's index, the list, the order.
var otherRoot = []string{"z: require y v1.0.0; require c v1.9.0", "y v1.0.0:", "index y v1.0.0"}

// What the last answer needed is there as long as it fits, however much was needed ahead of it.
func TestTheLastAnswerIsForgottenLast(t *testing.T) {
	for capacity := 7; capacity < 22; capacity++ {
		for _, isDiff := range []bool{false, true} {
			e := newEngine(t, capacity)
			lay(t, e, exampleWorld...)
			lay(t, e, otherRoot...)
			for _, root := range []string{"z", "a", "z", "a", "z"} {
				lay(t, e, "root "+root)
				if isDiff {
					e.Diff()
				} else {
					e.Answer()
				}
			}
			// Texts that nobody needs, so that all that is needed is looked at again.
			lay(t, e, "index q v1.0.0", "q v1.0.0:")
			was := e.Counts()
			checkAnswer(t, e, "y v1.0.0, z | 7 c v1.9.0 | y z")
			n := less(e.Counts(), was)
			if isNothing, fits := n == (api.Counts{}), capacity >= 8; isNothing != fits {
				t.Errorf("P19: with a capacity of %d an answer like the last, which needs 8 things, works %+v out", capacity, n)
			}
			checkResident(t, e, fmt.Sprint("a capacity of ", capacity), min(capacity, 17))
		}
	}
}

func drawNumber(draw *rand.Rand) int {
	switch draw.Intn(8) {
	case 0:
		return math.MinInt + draw.Intn(3)
	case 1:
		return math.MaxInt - draw.Intn(3)
	}
	return draw.Intn(101) - 50
}

// crowd is engines of several capacities, two of each, which get the same calls.
type crowd struct {
	t       *testing.T
	model   *world
	engines []*pinset.Engine
}

var crowdCapacities = []int{1, 1, 2, 2, 3, 3, 7, 7, 20, 20, 60, 60, 5000, 5000}

func newCrowd(t *testing.T) crowd {
	c := crowd{t: t, model: newWorld()}
	for _, capacity := range crowdCapacities {
		c.engines = append(c.engines, newEngine(t, capacity))
	}
	return c
}

// each lets all engines do something, and looks at what they keep behind it: engines of one capacity keep the same.
func (c crowd) each(do func(e *pinset.Engine) string, want string) {
	c.t.Helper()
	for i, e := range c.engines {
		if got := do(e); got != want {
			c.t.Fatalf("P16, P17, P19: with a capacity of %d: %s, want %s", crowdCapacities[i], got, want)
		}
		if n := e.Resident(); n < 0 || n > crowdCapacities[i] {
			c.t.Fatalf("P19: Resident() = %d with a capacity of %d", n, crowdCapacities[i])
		}
		if i%2 == 1 && (e.Resident() != c.engines[i-1].Resident() || e.Counts() != c.engines[i-1].Counts()) {
			c.t.Fatalf("P18, P19: two engines behind the same calls: %d and %d are kept, %+v and %+v were worked out", c.engines[i-1].Resident(), e.Resident(), c.engines[i-1].Counts(), e.Counts())
		}
	}
}

// drawEdit makes the edit that it draws for the model's twin in all engines.
func (c crowd) drawEdit(draw *rand.Rand) {
	seed := draw.Int63()
	for i, e := range c.engines {
		model := c.model
		if i+1 < len(c.engines) {
			model = c.model.copied()
		}
		twin{c.t, e, model}.drawEdit(rand.New(rand.NewSource(seed)))
	}
}

func (w *world) copied() *world {
	next := newWorld()
	for m, text := range w.manifests {
		next.manifests[m] = text
	}
	for path, text := range w.indexes {
		next.indexes[path] = text
	}
	next.root, next.revision, next.read = w.root, w.revision, w.read
	return next
}

func TestDrawnForgetting(t *testing.T) {
	draw := rand.New(rand.NewSource(21))
	for range 15 {
		c := newCrowd(t)
		var ahead api.Answer
		for range 150 {
			c.drawEdit(draw)
			n := drawNumber(draw)
			switch draw.Intn(6) {
			case 0:
				c.each(func(e *pinset.Engine) string { return told(e.Answer()) }, told(c.model.answer()))
			case 1:
				c.each(func(e *pinset.Engine) string { return turned(e.Diff()) }, turned(diffOf(ahead, c.model.answer())))
				ahead = c.model.answer()
			case 2, 3:
				c.each(func(e *pinset.Engine) string {
					was, counts := e.Resident(), e.Counts()
					e.Evict(n)
					return fmt.Sprint(e.Resident() == max(0, was-1), e.Counts() == counts)
				}, "true true")
			}
		}
	}
}
