package pinset_test

import (
	"math/rand"
	"slices"
	"strings"

	"pinset/api"
)

func sameManifest(a, b api.Manifest) bool {
	return a.Path == b.Path && slices.Equal(a.Requires, b.Requires) && slices.Equal(a.Excludes, b.Excludes) && slices.Equal(a.Replaces, b.Replaces)
}

func isEmpty(m api.Manifest) bool { return sameManifest(m, api.Manifest{}) }

// modules pairs the words: path, version, path, version ..
func modules(words ...string) []api.Module {
	var all []api.Module
	for i := 0; i+1 < len(words); i += 2 {
		all = append(all, api.Module{Path: words[i], Version: words[i+1]})
	}
	return all
}

// swaps takes the words by threes: path, version, by ..
func swaps(words ...string) []api.Swap {
	var all []api.Swap
	for i := 0; i+2 < len(words); i += 3 {
		all = append(all, api.Swap{Path: words[i], Version: words[i+1], By: words[i+2]})
	}
	return all
}

// requires is n require lines of n paths.
func requires(n int) string {
	var text strings.Builder
	for i := range n {
		text.WriteString("require x" + string(rune('a'+i)) + " v1.0.0\n")
	}
	return text.String()
}

// padded is text with a comment behind that makes it n bytes long.
func padded(text string, n int) string {
	return text + strings.Repeat("#", n-len(text))
}

// oddTexts are texts as nobody should hand them in.
func oddTexts() []string {
	all := []string{"", "\x00", "\n", "\r\n", "#", "##\n#", " ", "\t", "\xff\xfe", "v", "v..", "v...", "v-", "v0.0.0-", "/", "//", "///", "=>", "module", "module ", "module\x00a", "module /", "version", "version -", "require", "replace a v1.0.0 => =>", "\u00e4\u00f6", "module \u00e4", "v\u0661.0.0", "module a\u00a0", "module a\vb", "module a\fb"}
	for c := range 256 {
		b := string([]byte{byte(c)})
		all = append(all, b, "module "+b, "module a"+b+"\nrequire b v1.0.0", "version v1.0.0"+b, "version"+b+"v1.0.0", "v1.0.0-"+b, "v1."+b+".0")
	}
	for _, n := range []int{7, 41, 1999, 2000, 2001, 100000} {
		for _, s := range []string{"\n", " ", "#", "v", "1", ".", "-", "/", "a", "\x00", "\xff", "a ", "a\n", "v1.0.0 ", "module a\n", "version v1.0.0\n", "require a v1.0.0\n"} {
			all = append(all, strings.Repeat(s, n/len(s)+1)[:n])
		}
		all = append(all, "v1.0.0-"+strings.Repeat("a", n), "v"+strings.Repeat("9", n)+".0.0", "v1.0.0-"+strings.Repeat("9", n), strings.Repeat("a/", n)+"a")
	}
	return all
}

// drawText makes up a text of the words of both kinds, most of its lines well shaped.
func drawText(draw *rand.Rand, isManifest bool) string {
	var lines []string
	if isManifest && draw.Intn(20) > 0 {
		lines = append(lines, "module "+drawWord(draw, "P"))
	}
	for range draw.Intn(12) {
		lines = append(lines, drawLine(draw, isManifest))
	}
	if draw.Intn(30) == 0 {
		lines = append(lines, strings.TrimSuffix(requires(17+draw.Intn(7)), "\n"))
	}
	return strings.Join(lines, "\n")
}

func drawLine(draw *rand.Rand, isManifest bool) string {
	forms := []string{"version V"}
	if isManifest {
		forms = []string{"require P V", "require P V", "exclude P V", "replace P V => V"}
	}
	if draw.Intn(25) == 0 {
		forms = []string{"", "#", " # x", "module P", "version V", "require P V", "Require P V", "=> V", "P", "V"}
	}
	words := strings.Fields(forms[draw.Intn(len(forms))])
	for i := range words {
		words[i] = drawWord(draw, words[i])
	}
	switch draw.Intn(40) {
	case 0:
		words = append(words, "x")
	case 1:
		words = words[:draw.Intn(len(words)+1)]
	case 2:
		words = append(words, "#", "x", "y")
	case 3:
		words = append(words, "#x")
	}
	gaps := []string{" ", " ", " ", " ", "  ", "\t", " \t "}
	line := []string{"", "", "", "", " ", "\t"}[draw.Intn(6)]
	for i, w := range words {
		if i > 0 {
			line += gaps[draw.Intn(len(gaps))]
		}
		line += w
	}
	return line + []string{"", "", "", " ", "\t", "#"}[draw.Intn(6)]
}

func drawWord(draw *rand.Rand, w string) string {
	isOdd := draw.Intn(50) == 0
	switch {
	case w == "P" && isOdd:
		return pick(draw, "A", "a/", "/a", "a//b", "a/b/c/d", "abcdefghi", "a.b", "a-b", "a\r", "\xff")
	case w == "P":
		return pick(draw, "a", "b", "c", "a/b", "a/b/c", "ab", "0", "abcdefgh", "abcdefgh/abcdefgh/abcdefgh", "a0")
	case w == "V" && isOdd:
		return pick(draw, "v1", "v1.0", "v01.0.0", "v1.0.0-", "v1.0.0-01", "v1.0.0-a.b.c.d.e", "v1.0.0\r", "1.0.0", "v1000000.0.0", "v1.0.0+a")
	case w == "V":
		return drawVersion(draw)
	case w == "=>" && isOdd:
		return pick(draw, "=", "->", "==>", "v1.0.0", "=>>")
	}
	return w
}

func drawVersion(draw *rand.Rand) string {
	v := "v" + pick(draw, "0", "1", "2", "10") + "." + pick(draw, "0", "0", "9", "10") + "." + pick(draw, "0", "0", "999999")
	if draw.Intn(3) > 0 {
		return v
	}
	v += "-" + drawIdentifier(draw)
	for range draw.Intn(3) {
		v += "." + drawIdentifier(draw)
	}
	if len(v) > api.MaxVersion {
		return "v1.2.3"
	}
	return v
}

func drawIdentifier(draw *rand.Rand) string {
	return pick(draw, "0", "1", "2", "10", "9", "99999999", "a", "b", "ab", "A", "Z", "-", "--", "-1", "0a", "00a", "1-", "a-", "a0", "rc", "abcdefgh")
}

func pick(draw *rand.Rand, words ...string) string { return words[draw.Intn(len(words))] }
