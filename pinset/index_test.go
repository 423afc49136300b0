package pinset_test

import (
	"math/rand"
	"slices"
	"strconv"
	"strings"
	"testing"

	"pinset/api"
	"pinset/pinset"
)

func checkIndex(t *testing.T, text string, want ...string) {
	t.Helper()
	if l, slips := pinset.Index(text); !slices.Equal(l, want) || len(slips) != 0 {
		t.Errorf("P6: Index(%.80q) = %q, %v, want %q", text, l, slips, want)
	}
}

func checkIndexSlips(t *testing.T, text string, want ...api.Slip) {
	t.Helper()
	if l, slips := pinset.Index(text); l != nil || !slices.Equal(slips, want) {
		t.Errorf("P6: Index(%.80q) = %q, %v, want nil and the slips %v", text, l, slips, want)
	}
}

func TestIndexSays(t *testing.T) {
	for _, text := range []string{"", "\n", "#", " \t\n # version v1.0.0\n", strings.Repeat("\n", 2000), strings.Repeat("#", 2000)} {
		checkIndex(t, text)
	}
	checkIndex(t, "version v1.0.0", "v1.0.0")
	checkIndex(t, "version v1.10.0\nversion v1.9.0 # older\n\n\tversion  v1.10.0-a#\nversion v1.10.0-10\nversion v1.10.0-9\nversion v0.0.0", "v0.0.0", "v1.9.0", "v1.10.0-9", "v1.10.0-10", "v1.10.0-a", "v1.10.0")
	checkIndex(t, padded("version v1.0.0\n", 2000), "v1.0.0")
}

func TestIndexSlips(t *testing.T) {
	checkIndexSlips(t, padded("version v1.0.0\n", 2001), api.Slip{Line: 0, At: 0, Kind: 1})
	checkIndexSlips(t, strings.Repeat("x\n", 1001), api.Slip{Line: 0, At: 0, Kind: 1})
	checkIndexSlips(t, "module a\nversion v1.0.0\n Version v1.0.0\nrequire", api.Slip{Line: 1, At: 0, Kind: 3}, api.Slip{Line: 3, At: 1, Kind: 3}, api.Slip{Line: 4, At: 0, Kind: 3})
	checkIndexSlips(t, "\nversion # v1.0.0\n version v1 x y\nversion\tv1.0.0 v1.1.0", api.Slip{Line: 2, At: 7, Kind: 4}, api.Slip{Line: 3, At: 12, Kind: 4}, api.Slip{Line: 4, At: 15, Kind: 4})
	checkIndexSlips(t, "version v1\nversion =>\nversion  v1.0.0\r\nversion v1.0.0", api.Slip{Line: 1, At: 8, Kind: 6}, api.Slip{Line: 2, At: 8, Kind: 6}, api.Slip{Line: 3, At: 9, Kind: 6})
	checkIndexSlips(t, "version v1.0.0\nversion v1.0.1\n version v1.0.0\nversion v1.0.1\nversion v1.0.0", api.Slip{Line: 3, At: 1, Kind: 8}, api.Slip{Line: 4, At: 0, Kind: 8}, api.Slip{Line: 5, At: 0, Kind: 8})
	// A line with a slip has not said anything.
	checkIndexSlips(t, "version v1.0.0 x\nversion v1.0.0", api.Slip{Line: 1, At: 15, Kind: 4})
}

func TestIndexOfMany(t *testing.T) {
	var text string
	var want []string
	for i := range 100 {
		v := "v0.0." + strconv.Itoa(i)
		text = "version " + v + "\n" + text
		want = append(want, v)
	}
	checkIndex(t, text, want...)
}

func checkIndexAgainstPatterns(t *testing.T, text string) []api.Slip {
	t.Helper()
	want := slipsOf(text, indexLineForms, false)
	if len(want) > 0 {
		checkIndexSlips(t, text, want...)
	} else {
		checkIndex(t, text, versionsOf(text)...)
	}
	return want
}

func TestIndexDrawn(t *testing.T) {
	draw := rand.New(rand.NewSource(6))
	met := map[int]int{}
	for range 20000 {
		slips := checkIndexAgainstPatterns(t, drawText(draw, false))
		for _, s := range slips {
			met[s.Kind]++
		}
		if len(slips) == 0 {
			met[0]++
		}
	}
	for _, kind := range []int{0, 3, 4, 6, 8} {
		if met[kind] < 20 {
			t.Errorf("the texts have a slip of kind %d %d times: too seldom to tell", kind, met[kind])
		}
	}
	for _, text := range oddTexts() {
		checkIndexAgainstPatterns(t, text)
	}
}

func FuzzIndex(f *testing.F) {
	f.Add("version v1.0.0\nversion v1.0.0-a.1 # x\n")
	f.Fuzz(func(t *testing.T, text string) { checkIndexAgainstPatterns(t, text) })
}
