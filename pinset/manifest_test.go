package pinset_test

import (
	"math/rand"
	"slices"
	"strings"
	"testing"

	"pinset/api"
	"pinset/pinset"
)

func checkManifest(t *testing.T, text string, want api.Manifest) {
	t.Helper()
	if m, slips := pinset.Manifest(text); !sameManifest(m, want) || len(slips) != 0 {
		t.Errorf("P4: Manifest(%.80q) = %+v, %v, want %+v", text, m, slips, want)
	}
}

func checkManifestSlips(t *testing.T, text string, want ...api.Slip) {
	t.Helper()
	if m, slips := pinset.Manifest(text); !isEmpty(m) || !slices.Equal(slips, want) {
		t.Errorf("P4: Manifest(%.80q) = %+v, %v, want the slips %v", text, m, slips, want)
	}
}

func TestManifestSays(t *testing.T) {
	checkManifest(t, "module a", api.Manifest{Path: "a"})
	checkManifest(t, "module a/b # mine\n\nrequire c v1.0.0\n", api.Manifest{Path: "a/b", Requires: modules("c", "v1.0.0")})
	checkManifest(t, "\n\n#module x\n \t module \t abcdefgh/0/12345678#require\n\n", api.Manifest{Path: "abcdefgh/0/12345678"})
	checkManifest(t, "module a\nrequire require v1.0.0\nexclude module v1.0.0", api.Manifest{Path: "a", Requires: modules("require", "v1.0.0"), Excludes: modules("module", "v1.0.0")})
	checkManifest(t, "module a\nrequire a v1.0.0", api.Manifest{Path: "a", Requires: modules("a", "v1.0.0")})
}

func TestManifestOrders(t *testing.T) {
	checkManifest(t, "module a\nrequire c v1.0.0\nrequire b/a v1.0.0\nrequire ba v1.0.0\nrequire b v9.0.0\nrequire b0 v1.0.0\n",
		api.Manifest{Path: "a", Requires: modules("b", "v9.0.0", "b/a", "v1.0.0", "b0", "v1.0.0", "ba", "v1.0.0", "c", "v1.0.0")})
	checkManifest(t, "module a\nexclude c v1.10.0\nexclude c v1.9.0\nexclude b v3.0.0\nexclude c v1.10.0-a\nexclude c v1.10.0-10\nexclude c v1.10.0-9",
		api.Manifest{Path: "a", Excludes: modules("b", "v3.0.0", "c", "v1.9.0", "c", "v1.10.0-9", "c", "v1.10.0-10", "c", "v1.10.0-a", "c", "v1.10.0")})
	checkManifest(t, "module a\nreplace c v10.0.0 => v1.0.0\nreplace c v9.0.0 => v2.0.0\nreplace b v2.0.0 => v3.0.0\nreplace c v9.0.0-a => v9.0.0",
		api.Manifest{Path: "a", Replaces: swaps("b", "v2.0.0", "v3.0.0", "c", "v9.0.0-a", "v9.0.0", "c", "v9.0.0", "v2.0.0", "c", "v10.0.0", "v1.0.0")})
}

func TestManifestSaysTwice(t *testing.T) {
	// The same words of another line are not the same thing, nor is another version of what is excluded or replaced.
	checkManifest(t, "module a\nrequire b v1.0.0\nexclude b v1.0.0\nreplace b v1.0.0 => v1.0.0\nexclude b v1.1.0\nreplace b v1.1.0 => v1.0.0",
		api.Manifest{Path: "a", Requires: modules("b", "v1.0.0"), Excludes: modules("b", "v1.0.0", "b", "v1.1.0"), Replaces: swaps("b", "v1.0.0", "v1.0.0", "b", "v1.1.0", "v1.0.0")})
	checkManifestSlips(t, "module a\nrequire b v1.0.0\n require b v1.1.0\nrequire b v1.0.0", api.Slip{Line: 3, At: 1, Kind: 8}, api.Slip{Line: 4, At: 0, Kind: 8})
	checkManifestSlips(t, "module a\nexclude b v1.0.0\nexclude c v1.0.0\nexclude b v1.0.0", api.Slip{Line: 4, At: 0, Kind: 8})
	checkManifestSlips(t, "module a\nreplace b v1.0.0 => v1.1.0\nreplace b v1.0.0 => v1.2.0", api.Slip{Line: 3, At: 0, Kind: 8})
	// A line with a slip has not said anything.
	checkManifestSlips(t, "module a\nrequire b v1\nrequire b v1.0.0\nexclude b v1.0.0 x\nexclude b v1.0.0\nreplace b v1.0.0 = v1.0.0\nreplace b v1.0.0 => v1.0.0",
		api.Slip{Line: 2, At: 10, Kind: 6}, api.Slip{Line: 4, At: 17, Kind: 4}, api.Slip{Line: 6, At: 17, Kind: 7})
}

func TestManifestModuleLine(t *testing.T) {
	for _, text := range []string{"", "\n", "#", " \t\n# module a\n\t#", strings.Repeat("\n", 2000)} {
		checkManifestSlips(t, text, api.Slip{Line: 0, At: 0, Kind: 2})
	}
	checkManifestSlips(t, "require c v1.0.0\nmodule a\nreqire b v1\nrequire b v1 x\n",
		api.Slip{Line: 1, At: 0, Kind: 2}, api.Slip{Line: 2, At: 0, Kind: 2}, api.Slip{Line: 3, At: 0, Kind: 3}, api.Slip{Line: 4, At: 13, Kind: 4})
	checkManifestSlips(t, "\n \tx", api.Slip{Line: 2, At: 2, Kind: 2})
	checkManifestSlips(t, "Module a", api.Slip{Line: 1, At: 0, Kind: 2})
	checkManifestSlips(t, "modul# a", api.Slip{Line: 1, At: 0, Kind: 2})
	checkManifestSlips(t, "module a\n module a", api.Slip{Line: 2, At: 1, Kind: 2})
	checkManifestSlips(t, "module\nmodule a\nmodule", api.Slip{Line: 1, At: 6, Kind: 4}, api.Slip{Line: 2, At: 0, Kind: 2}, api.Slip{Line: 3, At: 0, Kind: 2})
}

func TestManifestSlipOfLine(t *testing.T) {
	for line, want := range map[string]api.Slip{
		"version v1.0.0": {At: 0, Kind: 3}, "=>": {At: 0, Kind: 3}, " Require b v1.0.0": {At: 1, Kind: 3}, "requires B": {At: 0, Kind: 3},
		"require": {At: 7, Kind: 4}, "require b": {At: 9, Kind: 4}, "require  B  # v1.0.0": {At: 10, Kind: 4}, "require B v1 x y": {At: 13, Kind: 4}, "exclude": {At: 7, Kind: 4}, "exclude b v1.0.0\tx": {At: 17, Kind: 4},
		"replace B v1 =>": {At: 15, Kind: 4}, "replace b v1.0.0 => v1.0.0 x": {At: 27, Kind: 4}, "replace b v1.0.0 v1.1.0": {At: 23, Kind: 4},
		"require B v1": {At: 8, Kind: 5}, "exclude b/ v1.0.0": {At: 8, Kind: 5}, "replace /b v1 -> v2": {At: 8, Kind: 5}, "require b/c/d/e v1.0.0": {At: 8, Kind: 5}, "require abcdefghi v1.0.0": {At: 8, Kind: 5}, "require b//c v1.0.0": {At: 8, Kind: 5}, "require b-c v1.0.0": {At: 8, Kind: 5},
		"require b 1.0.0": {At: 10, Kind: 6}, "exclude b v1.0.0-": {At: 10, Kind: 6}, "replace b v1 -> v2": {At: 10, Kind: 6}, "replace b v1.0.0 -> v2": {At: 20, Kind: 6}, "replace b => v1.0.0 v1.0.0": {At: 10, Kind: 6}, "require b v1.0.0\r": {At: 10, Kind: 6},
		"replace b v1.0.0 -> v2.0.0": {At: 17, Kind: 7}, "replace c v1.0.0 v1.0.0 v1.0.0": {At: 17, Kind: 7}, "replace c v1.0.0 =>> v1.0.0": {At: 17, Kind: 7}, "replace c v1.0.0 > v1.0.0": {At: 17, Kind: 7},
	} {
		want.Line = 3
		checkManifestSlips(t, "module a\nreplace c v1.0.0 => v1.1.0\n"+line+"\nrequire d v1.0.0", want)
	}
}

func TestManifestRequires(t *testing.T) {
	if m, slips := pinset.Manifest("module a\n" + requires(20) + "exclude b v1.0.0\nreplace b v1.0.0 => v1.0.0"); len(m.Requires) != 20 || len(slips) != 0 {
		t.Errorf("P4: of 20 requires: %d, %v", len(m.Requires), slips)
	}
	checkManifestSlips(t, "module a\n"+requires(22), api.Slip{Line: 22, At: 0, Kind: 9}, api.Slip{Line: 23, At: 0, Kind: 9})
	checkManifestSlips(t, "module a\n"+requires(20)+"require xa v2.0.0", api.Slip{Line: 22, At: 0, Kind: 8})
	checkManifestSlips(t, "module a\n"+requires(20)+"require z v1", api.Slip{Line: 22, At: 10, Kind: 6})
	// Requires with slips do not count among the twenty.
	checkManifestSlips(t, "module a\nrequire b\nrequire b v1\n"+requires(20)+" require b v1.0.0", api.Slip{Line: 2, At: 9, Kind: 4}, api.Slip{Line: 3, At: 10, Kind: 6}, api.Slip{Line: 24, At: 1, Kind: 9})
}

func TestManifestLength(t *testing.T) {
	checkManifest(t, padded("module a\n", 2000), api.Manifest{Path: "a"})
	checkManifestSlips(t, padded("module a\n", 2001), api.Slip{Line: 0, At: 0, Kind: 1})
	checkManifestSlips(t, strings.Repeat("\n", 2001), api.Slip{Line: 0, At: 0, Kind: 1})
	checkManifestSlips(t, strings.Repeat("x\n", 2000), api.Slip{Line: 0, At: 0, Kind: 1})
}

func checkAgainstPatterns(t *testing.T, text string) []api.Slip {
	t.Helper()
	want := slipsOf(text, manifestLineForms, true)
	if len(want) > 0 {
		checkManifestSlips(t, text, want...)
	} else {
		checkManifest(t, text, manifestOf(text))
	}
	return want
}

func TestManifestDrawn(t *testing.T) {
	draw := rand.New(rand.NewSource(4))
	met := map[int]int{}
	for range 30000 {
		slips := checkAgainstPatterns(t, drawText(draw, true))
		for _, s := range slips {
			met[s.Kind]++
		}
		if len(slips) == 0 {
			met[0]++
		}
	}
	for _, kind := range []int{0, 2, 3, 4, 5, 6, 7, 8, 9} {
		if met[kind] < 20 {
			t.Errorf("the texts have a slip of kind %d %d times: too seldom to tell", kind, met[kind])
		}
	}
	for _, text := range oddTexts() {
		checkAgainstPatterns(t, text)
	}
}

func FuzzManifest(f *testing.F) {
	f.Add("module a\nrequire b v1.0.0\nexclude c v1.0.0-a.1\nreplace d v1.0.0 => v2.0.0 # x\n")
	f.Fuzz(func(t *testing.T, text string) { checkAgainstPatterns(t, text) })
}
