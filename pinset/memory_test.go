package pinset_test

import (
	"slices"
	"strings"
	"sync"
	"testing"

	"pinset/api"
	"pinset/pinset"
)

const richText = "module a\nrequire c v1.0.0\nrequire b v1.0.0\nrequire d v1.0.0\nexclude c v1.0.0\nexclude b v1.0.0\nexclude b v0.1.0\nreplace c v1.0.0 => v1.1.0\nreplace b v1.0.0 => v1.1.0\nreplace b v0.1.0 => v1.1.0\n"

func richManifest() api.Manifest {
	return api.Manifest{
		Path:     "a",
		Requires: modules("b", "v1.0.0", "c", "v1.0.0", "d", "v1.0.0"),
		Excludes: modules("b", "v0.1.0", "b", "v1.0.0", "c", "v1.0.0"),
		Replaces: swaps("b", "v0.1.0", "v1.1.0", "b", "v1.0.0", "v1.1.0", "c", "v1.0.0", "v1.1.0"),
	}
}

// overwrite writes into a list and into its spare room.
func overwrite[T any](list []T, by T) {
	list = list[:cap(list)]
	for i := range list {
		list[i] = by
	}
}

func TestManifestListsAreNew(t *testing.T) {
	want := richManifest()
	kept, _ := pinset.Manifest(richText)
	m, _ := pinset.Manifest(richText)
	overwrite(m.Requires, api.Module{Path: "!"})
	if !slices.Equal(m.Excludes, want.Excludes) || !slices.Equal(m.Replaces, want.Replaces) {
		t.Errorf("P2: writing into Requires changed %+v", m)
	}
	overwrite(m.Excludes, api.Module{Path: "?"})
	overwrite(m.Replaces, api.Swap{Path: "?"})
	if slices.ContainsFunc(m.Requires, func(x api.Module) bool { return x.Path != "!" }) {
		t.Errorf("P2: writing into Excludes and Replaces changed %+v", m.Requires)
	}
	if !sameManifest(kept, want) {
		t.Errorf("P2: writing into what came out changed what came out ahead: %+v", kept)
	}
	checkManifest(t, richText, want)
}

func TestSlipListsAreNew(t *testing.T) {
	texts := []string{"", strings.Repeat("x", 2001), "x", "x\ny\nz\n"}
	for _, read := range []func(string) []api.Slip{
		func(text string) []api.Slip { _, slips := pinset.Manifest(text); return slips },
		func(text string) []api.Slip { _, slips := pinset.Index(text); return slips },
	} {
		for _, text := range texts {
			kept := read(text)
			want := slices.Clone(kept)
			overwrite(read(text), api.Slip{Line: -1, At: -1, Kind: -1})
			if !slices.Equal(kept, want) || !slices.Equal(read(text), want) {
				t.Errorf("P2: writing into the slips of %.20q changed others", text)
			}
		}
	}
}

func TestIndexListsAreNew(t *testing.T) {
	const text = "version v1.2.0\nversion v1.1.0\nversion v1.0.0\n"
	want := []string{"v1.0.0", "v1.1.0", "v1.2.0"}
	kept, _ := pinset.Index(text)
	l, _ := pinset.Index(text)
	overwrite(l, "!")
	if !slices.Equal(kept, want) {
		t.Errorf("P2: writing into what came out changed what came out ahead: %q", kept)
	}
	checkIndex(t, text, want...)
}

// withRoom is a copy of a list with marked spare room behind it.
func withRoom[T any](list []T, mark T) []T {
	room := append(slices.Clone(list), mark, mark, mark)
	return room[:len(list)]
}

func TestFormatWritesIntoNothing(t *testing.T) {
	lists := richManifest()
	slices.Reverse(lists.Requires)
	slices.Reverse(lists.Excludes)
	slices.Reverse(lists.Replaces)
	m := api.Manifest{
		Path:     "a",
		Requires: withRoom(lists.Requires, api.Module{Path: "!"}),
		Excludes: withRoom(lists.Excludes, api.Module{Path: "!"}),
		Replaces: withRoom(lists.Replaces, api.Swap{Path: "!"}),
	}
	text := pinset.Format(m)
	if !sameManifest(m, lists) {
		t.Errorf("P2: Format wrote into what was handed in: %+v", m)
	}
	if m.Requires[:4][3].Path != "!" || m.Excludes[:4][3].Path != "!" || m.Replaces[:4][3].Path != "!" {
		t.Errorf("P2: Format wrote into the spare room of what was handed in")
	}
	m.Requires[0].Path, m.Excludes[0].Path, m.Replaces[0].By = "?", "?", "?"
	if text != pinset.Format(richManifest()) || text == pinset.Format(m) {
		t.Errorf("P2: Format hangs on what was handed in ahead: %q", text)
	}
}

// Nothing is kept from call to call, so calls at the same time do not meet.
func TestCallsAtTheSameTime(t *testing.T) {
	want := richManifest()
	text := pinset.Format(want)
	var all sync.WaitGroup
	for range 8 {
		all.Go(func() {
			for range 200 {
				m, slips := pinset.Manifest(richText)
				l, more := pinset.Index("version v1.1.0\nversion v1.0.0")
				c, e := pinset.Compare("v1.0.0-a", "v1.0.0-1")
				if !sameManifest(m, want) || len(slips)+len(more) != 0 || !slices.Equal(l, []string{"v1.0.0", "v1.1.0"}) || c != 1 || e != api.OK || pinset.Format(m) != text {
					t.Error("P2: an answer changed under calls at the same time")
					return
				}
			}
		})
	}
	all.Wait()
}
