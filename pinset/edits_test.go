package pinset_test

import (
	"fmt"
	"math"
	"strings"
	"testing"

	"pinset/api"
	"pinset/pinset"
)

func checkErrno(t *testing.T, call string, got, want api.Errno) {
	t.Helper()
	if got != want {
		t.Errorf("P11: %s = %d, want %d", call, got, want)
	}
}

func checkRevision(t *testing.T, e *pinset.Engine, want int) {
	t.Helper()
	if n := e.Revision(); n != want {
		t.Errorf("P12: Revision() = %d, want %d", n, want)
	}
}

func TestNewEngine(t *testing.T) {
	for _, capacity := range []int{0, -1, -5000, math.MinInt} {
		if e, x := pinset.New(capacity); e != nil || x != api.ErrArg {
			t.Errorf("P10: New(%d) gives an engine: %t, and %d, want ErrArg", capacity, e != nil, x)
		}
	}
	for _, capacity := range []int{1, 2, 60, 5000, math.MaxInt} {
		e := newEngine(t, capacity)
		checkRevision(t, e, 0)
		checkAnswer(t, e, "| 1 |")
	}
}

var noPaths = []string{"A", "/", "a/", "/a", "a//b", "a/b/c/d", "abcdefghi", "a b", " a", "a\n", "a.b", "\xff", "v1.0.0-", strings.Repeat("a/", 5000), strings.Repeat("a", 5000)}

var noVersions = []string{"x", " ", "v", "v1", "v1.0", "v01.0.0", "v1.0.0 ", "v1.0.0-", "1.0.0", "a", "v1.0.0\n", "v1.0.0-a.b.c.d.e", strings.Repeat("v1.0.0", 5000)}

// A path that is none is told ahead of a version that is none, and both ahead of too many texts.
func TestWrongPathsAndVersions(t *testing.T) {
	for _, isFull := range []bool{false, true} {
		e := newEngine(t, 10)
		if isFull {
			fill(t, e)
		}
		at := e.Revision()
		for _, p := range append([]string{""}, noPaths...) {
			for _, v := range append([]string{"", "v1.0.0"}, noVersions...) {
				checkErrno(t, fmt.Sprintf("PutManifest(%.20q, %.20q)", p, v), e.PutManifest(p, v, "module a"), api.ErrPath)
				checkErrno(t, fmt.Sprintf("DropManifest(%.20q, %.20q)", p, v), e.DropManifest(p, v), api.ErrPath)
			}
			checkErrno(t, fmt.Sprintf("PutIndex(%.20q)", p), e.PutIndex(p, "version v1.0.0"), api.ErrPath)
			checkErrno(t, fmt.Sprintf("DropIndex(%.20q)", p), e.DropIndex(p), api.ErrPath)
		}
		for _, v := range noVersions {
			checkErrno(t, fmt.Sprintf("PutManifest(zz, %.20q)", v), e.PutManifest("zz", v, "module zz"), api.ErrVersion)
			checkErrno(t, fmt.Sprintf("DropManifest(zz, %.20q)", v), e.DropManifest("zz", v), api.ErrVersion)
		}
		for _, p := range noPaths {
			checkErrno(t, fmt.Sprintf("SetRoot(%.20q)", p), e.SetRoot(p), api.ErrPath)
		}
		checkRevision(t, e, at)
	}
}

func TestErrorsChangeNothing(t *testing.T) {
	e := built(t, exampleWorld...)
	checkAnswer(t, e, exampleAnswer)
	at := e.Revision()
	e.PutManifest("A", "", "module A")
	e.PutManifest("a", "v1", "module a")
	e.DropManifest("a", "x")
	e.DropManifest("", "")
	e.PutIndex("b/", "")
	e.DropIndex("b/")
	e.SetRoot("b/")
	e.SetRoot("A")
	checkRevision(t, e, at)
	checkAnswer(t, e, exampleAnswer)
}

// fill lays down as many texts as may be.
func fill(t *testing.T, e *pinset.Engine) {
	t.Helper()
	for i := range 60 {
		checkErrno(t, "PutManifest", e.PutManifest("p", fmt.Sprintf("v%d.0.0", i), ""), api.OK)
	}
	for i := range 30 {
		checkErrno(t, "PutIndex", e.PutIndex(fmt.Sprintf("p%d", i), ""), api.OK)
	}
}

func TestAsManyTextsAsMayBe(t *testing.T) {
	e := newEngine(t, 1)
	fill(t, e)
	checkRevision(t, e, 90)
	for _, v := range []string{"", "v60.0.0", "v0.0.0-a"} {
		checkErrno(t, "the 61st PutManifest", e.PutManifest("p", v, "module p"), api.ErrMany)
	}
	checkErrno(t, "the 61st PutManifest", e.PutManifest("q", "v0.0.0", ""), api.ErrMany)
	checkErrno(t, "the 31st PutIndex", e.PutIndex("p30", ""), api.ErrMany)
	checkErrno(t, "the 31st PutIndex", e.PutIndex("p", ""), api.ErrMany)
	checkRevision(t, e, 90)
	checkErrno(t, "PutManifest of one that is there", e.PutManifest("p", "v0.0.0", "x"), api.OK)
	checkErrno(t, "PutManifest of one that is there", e.PutManifest("p", "v59.0.0", ""), api.OK)
	checkErrno(t, "PutIndex of one that is there", e.PutIndex("p0", "x"), api.OK)
	checkErrno(t, "PutIndex of one that is there", e.PutIndex("p29", ""), api.OK)
	checkRevision(t, e, 92)
	checkErrno(t, "DropManifest", e.DropManifest("p", "v7.0.0"), api.OK)
	checkErrno(t, "the 31st PutIndex", e.PutIndex("q", ""), api.ErrMany)
	checkErrno(t, "the 60th PutManifest", e.PutManifest("p", "", ""), api.OK)
	checkErrno(t, "the 61st PutManifest", e.PutManifest("p", "v7.0.0", ""), api.ErrMany)
	checkErrno(t, "DropIndex", e.DropIndex("p7"), api.OK)
	checkErrno(t, "the 61st PutManifest", e.PutManifest("p", "v7.0.0", ""), api.ErrMany)
	checkErrno(t, "the 30th PutIndex", e.PutIndex("q", ""), api.OK)
	checkErrno(t, "the 31st PutIndex", e.PutIndex("p7", ""), api.ErrMany)
	checkRevision(t, e, 96)
}

// Each edit is said with how many edits have changed something behind it.
func TestRevision(t *testing.T) {
	e := newEngine(t, 3)
	long := strings.Repeat("x", 9000)
	for i, edit := range []struct {
		call func() api.Errno
		want int
	}{
		{func() api.Errno { return e.SetRoot("") }, 0},
		{func() api.Errno { return e.DropManifest("a", "") }, 0},
		{func() api.Errno { return e.DropManifest("a", "v1.0.0") }, 0},
		{func() api.Errno { return e.DropIndex("a") }, 0},
		{func() api.Errno { return e.PutManifest("a", "", "") }, 1},
		{func() api.Errno { return e.PutManifest("a", "", "") }, 1},
		{func() api.Errno { return e.PutManifest("a", "v1.0.0", "") }, 2},
		{func() api.Errno { return e.PutManifest("a", "v1.0.0-a", "") }, 3},
		{func() api.Errno { return e.PutIndex("a", "") }, 4},
		{func() api.Errno { return e.PutIndex("a", "") }, 4},
		{func() api.Errno { return e.PutIndex("a/a", "") }, 5},
		{func() api.Errno { return e.PutManifest("a", "", "module a") }, 6},
		{func() api.Errno { return e.PutManifest("a", "", "module a") }, 6},
		{func() api.Errno { return e.PutManifest("a", "", "module a ") }, 7}, // says the same, but is another text
		{func() api.Errno { return e.PutManifest("a", "", "module a") }, 8},
		{func() api.Errno { return e.PutManifest("a", "", long+"x") }, 9},
		{func() api.Errno { return e.PutManifest("a", "", long+"y") }, 10},
		{func() api.Errno { return e.PutManifest("a", "", long+"y") }, 10},
		{func() api.Errno { return e.PutIndex("a", "version v1.0.0") }, 11},
		{func() api.Errno { return e.PutIndex("a", "version v1.0.0") }, 11},
		{func() api.Errno { return e.PutIndex("a", "version v1.0.0\n") }, 12},
		{func() api.Errno { return e.SetRoot("a") }, 13},
		{func() api.Errno { return e.SetRoot("a") }, 13},
		{func() api.Errno { return e.SetRoot("a/a") }, 14},
		{func() api.Errno { return e.SetRoot("") }, 15},
		{func() api.Errno { return e.SetRoot("") }, 15},
		{func() api.Errno { return e.DropManifest("a", "v1.0.0") }, 16},
		{func() api.Errno { return e.DropManifest("a", "v1.0.0") }, 16},
		{func() api.Errno { return e.DropManifest("a/a", "") }, 16},
		{func() api.Errno { return e.DropManifest("a", "") }, 17},
		{func() api.Errno { return e.DropManifest("a", "") }, 17},
		{func() api.Errno { return e.DropIndex("a") }, 18},
		{func() api.Errno { return e.DropIndex("a") }, 18},
		{func() api.Errno { return e.PutManifest("a", "v1.0.0", "") }, 19},
	} {
		checkErrno(t, fmt.Sprintf("edit %d", i), edit.call(), api.OK)
		if n := e.Revision(); n != edit.want {
			t.Fatalf("P12: Revision() = %d behind edit %d, want %d", n, i, edit.want)
		}
		e.Answer()
		checkRevision(t, e, edit.want)
	}
}

// A manifest and an index under one path are two texts, and so are manifests under two versions.
func TestTextsDoNotMeet(t *testing.T) {
	e := built(t, "root a", "a: require b v1.0.0", "index b v1.0.0", "b v1.0.0:")
	checkAnswer(t, e, "a, b v1.0.0 | | b a")
	e.DropIndex("a")
	e.DropManifest("b", "")
	e.DropManifest("b", "v1.0.1")
	checkAnswer(t, e, "a, b v1.0.0 | | b a")
	e.DropManifest("b", "v1.0.0")
	checkAnswer(t, e, "a, b v1.0.0 | 2 b v1.0.0 | b a")
	e.PutManifest("b", "", "module b")
	checkAnswer(t, e, "a, b v1.0.0 | 2 b v1.0.0 | b a")
	e.DropIndex("b")
	checkAnswer(t, e, "a | 5 b | a")
}

func TestEditsTakeEveryText(t *testing.T) {
	w := newTwin(t, 20)
	w.setRoot("a")
	for _, text := range oddTexts() {
		w.putManifest("a", "", text)
		w.putIndex("b", text)
		w.checkAnswer()
		w.putManifest("a", "", "module a\nrequire b v1.0.0\n")
		w.putManifest("b", "v1.0.0", text)
		w.checkAnswer()
		w.putIndex("b", "version v1.0.0")
		w.checkAnswer()
		w.putManifest(text, text, text)
		w.dropManifest(text, "")
		w.dropManifest("a", text)
		w.putIndex(text, text)
		w.dropIndex(text)
		w.setRoot(text)
		w.checkAnswer()
		w.setRoot("a")
	}
}
