package pinset_test

import (
	"math/rand"
	"strconv"
	"strings"
	"testing"

	"pinset/api"
	"pinset/pinset"
)

func checkFormat(t *testing.T, m api.Manifest, want string) {
	t.Helper()
	if text := pinset.Format(m); text != want {
		t.Errorf("P5: Format(%+v) = %q, want %q", m, text, want)
	}
}

func TestFormatLines(t *testing.T) {
	checkFormat(t, api.Manifest{Path: "a/b"}, "module a/b\n")
	checkFormat(t, api.Manifest{Path: "a", Requires: modules("b", "v1.0.0"), Excludes: modules("c", "v2.0.0"), Replaces: swaps("d", "v3.0.0", "v4.0.0")},
		"module a\nrequire b v1.0.0\nexclude c v2.0.0\nreplace d v3.0.0 => v4.0.0\n")
	checkFormat(t, api.Manifest{Path: "a", Requires: modules("c", "v1.0.0", "b/a", "v1.0.0", "b", "v1.0.0", "b0", "v1.0.0")},
		"module a\nrequire b v1.0.0\nrequire b/a v1.0.0\nrequire b0 v1.0.0\nrequire c v1.0.0\n")
	checkFormat(t, api.Manifest{Path: "a", Excludes: modules("c", "v1.0.0", "b", "v10.0.0", "b", "v9.0.0", "b", "v10.0.0-a", "b", "v10.0.0-2")},
		"module a\nexclude b v9.0.0\nexclude b v10.0.0-2\nexclude b v10.0.0-a\nexclude b v10.0.0\nexclude c v1.0.0\n")
	checkFormat(t, api.Manifest{Path: "a", Replaces: swaps("c", "v1.0.0", "v1.0.0", "b", "v10.0.0", "v1.0.0", "b", "v9.0.0", "v2.0.0")},
		"module a\nreplace b v9.0.0 => v2.0.0\nreplace b v10.0.0 => v1.0.0\nreplace c v1.0.0 => v1.0.0\n")
}

func TestFormatSamePlace(t *testing.T) {
	checkFormat(t, api.Manifest{Path: "a", Requires: modules("b", "v2.0.0", "a", "x", "b", "v1.0.0", "b", "", "b", "v3.0.0")},
		"module a\nrequire a x\nrequire b v2.0.0\nrequire b v1.0.0\nrequire b \nrequire b v3.0.0\n")
	checkFormat(t, api.Manifest{Path: "a", Excludes: modules("b", "v1.0.0", "a", "x", "b", "v1.0.0", "a", "x")},
		"module a\nexclude a x\nexclude a x\nexclude b v1.0.0\nexclude b v1.0.0\n")
	checkFormat(t, api.Manifest{Path: "a", Replaces: swaps("b", "v1.0.0", "v3.0.0", "b", "v1.0.0", "v1.0.0", "b", "x", "z", "b", "v1.0.0", "v2.0.0", "b", "x", "y")},
		"module a\nreplace b x => z\nreplace b x => y\nreplace b v1.0.0 => v3.0.0\nreplace b v1.0.0 => v1.0.0\nreplace b v1.0.0 => v2.0.0\n")
}

// Of many things in few places an order that does not keep places apart by chance moves some.
func TestFormatManyInSamePlace(t *testing.T) {
	var m api.Manifest
	var b, c, swapsB, swapsC string
	for i := range 300 {
		n := strconv.Itoa(i * 7919 % 300)
		if i*31%7 < 3 {
			m.Requires = append(m.Requires, api.Module{Path: "b", Version: n})
			m.Replaces = append(m.Replaces, api.Swap{Path: "b", Version: "v1.0.0", By: n})
			b += "require b " + n + "\n"
			swapsB += "replace b v1.0.0 => " + n + "\n"
		} else {
			m.Requires = append(m.Requires, api.Module{Path: "c", Version: n})
			m.Replaces = append(m.Replaces, api.Swap{Path: "b", Version: "v1.1.0", By: n})
			c += "require c " + n + "\n"
			swapsC += "replace b v1.1.0 => " + n + "\n"
		}
	}
	checkFormat(t, m, "module \n"+b+c+swapsB+swapsC)
}

// Whatever the order in which they are handed in, versions and words that are none come out in one order.
func TestFormatAnyOrder(t *testing.T) {
	draw := rand.New(rand.NewSource(7))
	words := []string{"", "Z", "v01.0.0", "v1", "v10", "zz", "v0.0.0-0", "v1.0.0-a", "v1.0.0", "v1.9.0", "v1.10.0"}
	want := "module a\n"
	for _, w := range words {
		want += "exclude b " + w + "\n"
	}
	for range 500 {
		m := api.Manifest{Path: "a"}
		for _, i := range draw.Perm(len(words)) {
			m.Excludes = append(m.Excludes, api.Module{Path: "b", Version: words[i]})
		}
		checkFormat(t, m, want)
	}
}

func TestFormatNoVersions(t *testing.T) {
	checkFormat(t, api.Manifest{}, "module \n")
	checkFormat(t, api.Manifest{Path: "A b", Requires: modules("", "")}, "module A b\nrequire  \n")
	checkFormat(t, api.Manifest{Path: "a", Excludes: modules("b", "v0.0.0-0", "b", "zz", "b", "v1.0.0", "b", "", "b", "v01.0.0", "b", "aa", "b", "v1", "b", "Z", "b", "v10")},
		"module a\nexclude b \nexclude b Z\nexclude b aa\nexclude b v01.0.0\nexclude b v1\nexclude b v10\nexclude b zz\nexclude b v0.0.0-0\nexclude b v1.0.0\n")
	checkFormat(t, api.Manifest{Path: "a", Replaces: swaps("b", "v0.0.0-0", "x", "b", "zz", "", "b", "\xff", "y", "", "v9.0.0", "", "b", "10", "x", "b", "9", "x")},
		"module a\nreplace  v9.0.0 => \nreplace b 10 => x\nreplace b 9 => x\nreplace b zz => \nreplace b \xff => y\nreplace b v0.0.0-0 => x\n")
	for _, s := range oddTexts() {
		checkFormat(t, api.Manifest{Path: s, Requires: modules(s, s), Excludes: modules(s, s), Replaces: swaps(s, s, s)},
			"module "+s+"\nrequire "+s+" "+s+"\nexclude "+s+" "+s+"\nreplace "+s+" "+s+" => "+s+"\n")
	}
}

func TestFormatAndBack(t *testing.T) {
	draw := rand.New(rand.NewSource(5))
	clean := 0
	for range 20000 {
		m, slips := pinset.Manifest(drawText(draw, true))
		if len(slips) > 0 {
			continue
		}
		clean++
		if again, slips := pinset.Manifest(pinset.Format(m)); !sameManifest(again, m) || len(slips) != 0 {
			t.Fatalf("P5: Manifest of Format of %+v = %+v, %v", m, again, slips)
		}
	}
	if clean < 1000 {
		t.Errorf("only %d texts without slips: too few to tell", clean)
	}
	full := padded("module a\n"+requires(20), 2000)
	m, _ := pinset.Manifest(full)
	if again, slips := pinset.Manifest(pinset.Format(m)); !sameManifest(again, m) || len(slips) != 0 || len(m.Requires) != 20 {
		t.Errorf("P5: Manifest of Format of a full manifest = %+v, %v", again, slips)
	}
}

// longest is a manifest of n bytes without a byte that could be left out: no newline behind its last line either.
func longest(n int) string {
	text := "module a"
	for i := 0; len(text)+len("\nexclude b v100000.0.0") <= n-30; i++ {
		text += "\nexclude b v" + strconv.Itoa(100000+i) + ".0.0"
	}
	last := "\nexclude c v1.0.0-"
	for _, part := range []string{"a", "a.a", "aaaaaaaa.a", "aaaaaaaa.aaaaaaaa.a"} {
		for more := range 8 {
			if line := last + part + strings.Repeat("a", more); len(text)+len(line) == n {
				return text + line
			}
		}
	}
	return ""
}

// A text of the greatest length may lack the newline that Format writes behind every line, the last one too.
func TestFormatLongest(t *testing.T) {
	for _, n := range []int{1998, 1999, 2000} {
		text := longest(n)
		m, slips := pinset.Manifest(text)
		if len(text) != n || len(slips) != 0 {
			t.Fatalf("P4: Manifest of %d bytes: %v", len(text), slips)
		}
		checkFormat(t, m, text+"\n")
		again, slips := pinset.Manifest(text + "\n")
		if n < 2000 && (!sameManifest(again, m) || len(slips) != 0) {
			t.Errorf("P5: Manifest of Format of a manifest of %d bytes: %v", n, slips)
		}
	}
}
