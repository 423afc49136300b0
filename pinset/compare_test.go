package pinset_test

import (
	"cmp"
	"math/rand"
	"testing"

	"pinset/api"
	"pinset/pinset"
)

func TestCompareOrder(t *testing.T) {
	rising := []string{
		"v0.0.0-0", "v0.0.0-0.0", "v0.0.0", "v0.0.1", "v0.0.9", "v0.0.10", "v0.1.0", "v0.9.999999", "v0.10.0",
		"v1.0.0-0", "v1.0.0-1", "v1.0.0-2", "v1.0.0-10", "v1.0.0-99999999", "v1.0.0--", "v1.0.0---", "v1.0.0--1", "v1.0.0-0a", "v1.0.0-1-", "v1.0.0-A", "v1.0.0-Z", "v1.0.0-a",
		"v1.0.0-a.0", "v1.0.0-a.1", "v1.0.0-a.1.a", "v1.0.0-a.1.a.0", "v1.0.0-a.2", "v1.0.0-a.10", "v1.0.0-a.b", "v1.0.0-a-", "v1.0.0-a0", "v1.0.0-aa", "v1.0.0-b", "v1.0.0-rc.1", "v1.0.0",
		"v1.0.1-a", "v1.0.1", "v1.2.3", "v1.10.0", "v2.0.0", "v10.0.0", "v99999.0.0", "v100000.0.0", "v999999.0.0", "v999999.999999.999999-a", "v999999.999999.999999",
	}
	for i, a := range rising {
		for j, b := range rising {
			if c, e := pinset.Compare(a, b); c != cmp.Compare(i, j) || e != api.OK {
				t.Errorf("P3: Compare(%q, %q) = %d, %d, want %d", a, b, c, e, cmp.Compare(i, j))
			}
		}
	}
}

func TestCompareLongest(t *testing.T) {
	for _, v := range []string{
		"v1.0.0-abcdefgh", "v1.0.0-12345678", "v1.0.0-a.b.c.d", "v1.0.0-0000000a", "v999999.999999.999999",
		"v1.0.0-aaaaaaaa.bbbbbbbb.cccccccc.dddddd", // 40 bytes
		"v999999.999999.999999-aaaaaaaa.bbbbbbbb",
	} {
		if c, e := pinset.Compare(v, v); c != 0 || e != api.OK {
			t.Errorf("P3: Compare of %q with itself = %d, %d, want 0, OK", v, c, e)
		}
	}
}

func TestCompareNoVersion(t *testing.T) {
	wrong := []string{
		"", "v", "V1.0.0", "1.0.0", "vv1.0.0", "v1", "v1.0", "v1.0.", "v1.0.0.", "v1.0.0.0", "v.0.0", "v1..0", "v1.0.a", "v1.0.-1", "v-1.0.0", "v+1.0.0", "v1,0.0",
		"v01.0.0", "v00.0.0", "v1.01.0", "v1.0.00", "v1000000.0.0", "v0.1000000.0", "v0.0.1000000", "v1_0.0.0", "v0x1.0.0",
		"v1.0.0-", "v1.0-a", "v1-a", "v1-a.0.0", "v1.0.0-.", "v1.0.0-.a", "v1.0.0-a.", "v1.0.0-a..b", "v1.0.0-00", "v1.0.0-01", "v1.0.0-a.01", "v1.0.0-abcdefghi", "v1.0.0-123456789", "v1.0.0-a.b.c.d.e",
		"v1.0.0-a_b", "v1.0.0-a+b", "v1.0.0+a", "v1.0.0-\u00e4", "v1.0.0-a\xff", "v1.0.0-a/b", "v1.0.0-@", "v1.0.0-[", "v1.0.0-`", "v1.0.0-{", "v1.0.0-:",
		" v1.0.0", "v1.0.0 ", "v1.0.0\n", "\nv1.0.0", "v1.0.0\x00", "v1.0.0-a\n",
		"v1.0.0-aaaaaaaa.bbbbbbbb.cccccccc.ddddddd", // 41 bytes
		"v1.0.0-aaaaaaaa.bbbbbbbb.cccccccc.dddddddd", "v999999.999999.999999-aaaaaaaa.bbbbbbbb.", "v999999.999999.999999-aaaaaaaa.bbbbbbbb.1",
	}
	for _, s := range append(wrong, oddTexts()...) {
		if isVersion(s) {
			continue
		}
		for _, right := range []string{"v1.0.0", "v0.0.0-a", s} {
			if c, e := pinset.Compare(s, right); c != 0 || e != api.ErrVersion {
				t.Errorf("P3: Compare(%.60q, %.60q) = %d, %d, want 0, ErrVersion", s, right, c, e)
			}
			if c, e := pinset.Compare(right, s); c != 0 || e != api.ErrVersion {
				t.Errorf("P3: Compare(%.60q, %.60q) = %d, %d, want 0, ErrVersion", right, s, c, e)
			}
		}
	}
	for _, s := range wrong {
		if isVersion(s) {
			t.Errorf("the test holds %q for a version", s)
		}
	}
}

func TestCompareDrawn(t *testing.T) {
	draw := rand.New(rand.NewSource(3))
	for range 50000 {
		a, b := drawVersion(draw), drawVersion(draw)
		want := cmp.Compare(versionKey(a), versionKey(b))
		if c, e := pinset.Compare(a, b); c != want || e != api.OK {
			t.Fatalf("P3: Compare(%q, %q) = %d, %d, want %d", a, b, c, e, want)
		}
	}
}
