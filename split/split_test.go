package split

import (
	"math/rand"
	"slices"
	"strings"
	"testing"
)

// of is a text of n bytes without a /.
func of(n int) string { return strings.Repeat("n", n) }

// wantCuts looks at each place of a name, by the chapter's words.
func wantCuts(s string) []int {
	cuts := []int{}
	for at, b := range []byte(s) {
		ahead, behind := s[:at], s[at+1:]
		if b == '/' && len(ahead) >= 1 && len(ahead) <= 155 && len(behind) >= 1 && len(behind) <= 100 {
			cuts = append(cuts, at)
		}
	}
	return cuts
}

// wantSplit takes, of the ways to part a name, the one with the longest prefix, by the chapter's words.
func wantSplit(s string) (prefix, name string, ok bool) {
	if len(s) >= 1 && len(s) <= 100 {
		return "", s, true
	}
	for _, at := range wantCuts(s) {
		if at > len(prefix) {
			prefix, name, ok = s[:at], s[at+1:], true
		}
	}
	return prefix, name, ok
}

// held asks all calls about a name, and holds what they answer against the chapter's words.
func held(t *testing.T, s string) {
	t.Helper()
	prefix, name, ok := Split(s)
	if p, n, o := wantSplit(s); prefix != p || name != n || ok != o {
		t.Fatalf("P10.1: Split of %q: %q, %q, %v; want %q, %q, %v", s, prefix, name, ok, p, n, o)
	}
	if got, want := Cuts(s), wantCuts(s); !slices.Equal(got, want) {
		t.Fatalf("P10.1: Cuts of %q: %v; want %v", s, got, want)
	}
	wholeHeld(t, s, prefix, name, ok)
}

// wholeHeld asks P10.3 of what Split answered.
func wholeHeld(t *testing.T, s, prefix, name string, ok bool) {
	t.Helper()
	if !ok {
		if prefix != "" || name != "" {
			t.Fatalf("P10.1: Split of %q: %q, %q beside false", s, prefix, name)
		}
		return
	}
	whole := name
	if prefix != "" {
		whole = prefix + "/" + name
	}
	if whole != s {
		t.Fatalf("P10.3: Split of %q: %q and %q aren't the whole", s, prefix, name)
	}
	if len(s) > Most() {
		t.Fatalf("P10.3: a name of %d bytes splits", len(s))
	}
	if name == "" || len(name) > 100 || len(prefix) > 155 {
		t.Fatalf("P10.3: Split of %q: %q and %q don't fit into the fields", s, prefix, name)
	}
}

func TestSplit(t *testing.T) {
	for _, c := range []struct {
		what, s, prefix, name string
		ok                    bool
	}{
		{"the empty name", "", "", "", false},
		{"one byte", "n", "", "n", true},
		{"99 bytes", of(99), "", of(99), true},
		{"100 bytes", of(100), "", of(100), true},
		{"101 bytes without a /", of(101), "", "", false},
		{"a / alone", "/", "", "/", true},
		{"a / at byte 0 of 100", "/" + of(99), "", "/" + of(99), true},
		{"a / at byte 0 of 101", "/" + of(100), "", "", false},
		{"a / as the last of 100", of(99) + "/", "", of(99) + "/", true},
		{"a / as the last of 101", of(100) + "/", "", "", false},
		{"two / ahead", "//" + of(100), "/", of(100), true},
		{"two / ahead, 101 behind", "//" + of(101), "", "", false},
		{"two / at the end", of(100) + "//", of(100), "/", true},
		{"two / in the midst", of(80) + "//" + of(80), of(80) + "/", of(80), true},
		{"two /, the second with too much ahead", of(155) + "//" + of(50), of(155), "/" + of(50), true},
		{"two /, the first with too much behind", of(50) + "//" + of(100), of(50) + "/", of(100), true},
		{"154 ahead", of(154) + "/" + of(9), of(154), of(9), true},
		{"155 ahead", of(155) + "/" + of(9), of(155), of(9), true},
		{"156 ahead", of(156) + "/" + of(9), "", "", false},
		{"99 behind", of(9) + "/" + of(99), of(9), of(99), true},
		{"100 behind", of(9) + "/" + of(100), of(9), of(100), true},
		{"101 behind", of(9) + "/" + of(101), "", "", false},
		{"one ahead, 100 behind", "n/" + of(100), "n", of(100), true},
		{"155 ahead, one behind", of(155) + "/n", of(155), "n", true},
		{"none behind the / that would do", of(150) + "/", "", "", false},
		{"several cuts", of(40) + "/" + of(40) + "/" + of(40), of(40) + "/" + of(40), of(40), true},
		{"several cuts and a last / that is none", of(40) + "/" + of(40) + "/" + of(40) + "/", of(40) + "/" + of(40), of(40) + "/", true},
		{"several /, of which only one is a cut", "n/" + of(98) + "/" + of(60) + "/" + of(39), "n/" + of(98), of(60) + "/" + of(39), true},
		{"one that fits and has cuts", "a/b/c", "", "a/b/c", true},
		{"100 bytes with a cut", of(50) + "/" + of(49), "", of(50) + "/" + of(49), true},
		{"101 bytes with a cut", of(50) + "/" + of(50), of(50), of(50), true},
		{"255 bytes", of(155) + "/" + of(99), of(155), of(99), true},
		{"255 bytes, one less ahead", of(154) + "/" + of(100), of(154), of(100), true},
		{"256 bytes", of(155) + "/" + of(100), of(155), of(100), true},
		{"256 bytes, the / one too early", of(154) + "/" + of(101), "", "", false},
		{"256 bytes, the / one too late", of(156) + "/" + of(99), "", "", false},
		{"257 bytes, the / at 155", of(155) + "/" + of(101), "", "", false},
		{"257 bytes, the / at 156", of(156) + "/" + of(100), "", "", false},
		{"257 bytes of / alone", strings.Repeat("/", 257), "", "", false},
		{"256 bytes of / alone", strings.Repeat("/", 256), strings.Repeat("/", 155), strings.Repeat("/", 100), true},
		{"101 bytes of / alone", strings.Repeat("/", 101), strings.Repeat("/", 99), "/", true},
		{"bytes 0 that fit", "\x00/\x00", "", "\x00/\x00", true},
		{"bytes 0", strings.Repeat("\x00", 60) + "/" + strings.Repeat("\x00", 60), strings.Repeat("\x00", 60), strings.Repeat("\x00", 60), true},
		{"bytes above 127", strings.Repeat("\xff", 155) + "/" + strings.Repeat("\xaf", 100), strings.Repeat("\xff", 155), strings.Repeat("\xaf", 100), true},
		{"code points of two bytes, 101 bytes", strings.Repeat("\u00e9", 50) + "n", "", "", false},
		{"code points of two bytes, 102 behind", "n/" + strings.Repeat("\u00e9", 51), "", "", false},
		{"code points of two bytes, 156 ahead", strings.Repeat("\u00e9", 78) + "/n", "", "", false},
		{"a \\ is no /", of(60) + "\\" + of(60), "", "", false},
		{"very long, no /", of(1 << 20), "", "", false},
		{"very long, / alone", strings.Repeat("/", 1<<20), "", "", false},
		{"very long, a / at each odd place", strings.Repeat("n/", 1<<19), "", "", false},
	} {
		prefix, name, ok := Split(c.s)
		if prefix != c.prefix || name != c.name || ok != c.ok {
			t.Errorf("P10.1: %s: Split: %q, %q, %v; want %q, %q, %v", c.what, prefix, name, ok, c.prefix, c.name, c.ok)
		}
		held(t, c.s)
	}
}

func TestCuts(t *testing.T) {
	run := func(from, to int) []int {
		var l []int
		for at := from; at <= to; at++ {
			l = append(l, at)
		}
		return l
	}
	for _, c := range []struct {
		what, s string
		cuts    []int
	}{
		{"the empty name", "", nil},
		{"one byte", "n", nil},
		{"100 bytes", of(100), nil},
		{"101 bytes", of(101), nil},
		{"a / alone", "/", nil},
		{"two / alone", "//", nil},
		{"three / alone", "///", []int{1}},
		{"a / at byte 0", "/n", nil},
		{"a / as the last byte", "n/", nil},
		{"the shortest name with a cut", "n/n", []int{1}},
		{"one that fits, with two", "a/b/c", []int{1, 3}},
		{"one that fits, with / at both ends", "/a/b/", []int{2}},
		{"two beside each other", "a//b", []int{1, 2}},
		{"154 ahead", of(154) + "/n", []int{154}},
		{"155 ahead", of(155) + "/n", []int{155}},
		{"156 ahead", of(156) + "/n", nil},
		{"99 behind", "n/" + of(99), []int{1}},
		{"100 behind", "n/" + of(100), []int{1}},
		{"101 behind", "n/" + of(101), nil},
		{"none behind", of(150) + "/", nil},
		{"100 bytes of / alone", strings.Repeat("/", 100), run(1, 98)},
		{"102 bytes of / alone", strings.Repeat("/", 102), run(1, 100)},
		{"157 bytes of / alone", strings.Repeat("/", 157), run(56, 155)},
		{"158 bytes of / alone", strings.Repeat("/", 158), run(57, 155)},
		{"255 bytes of / alone", strings.Repeat("/", 255), run(154, 155)},
		{"256 bytes of / alone", strings.Repeat("/", 256), run(155, 155)},
		{"257 bytes of / alone", strings.Repeat("/", 257), nil},
		{"bytes 0 and above 127", "\x00/\xff/\x80", []int{1, 3}},
		{"a byte that is a / but for its highest bit", "n\xafn", nil},
		{"very long, no /", of(1 << 20), nil},
		{"very long, / alone", strings.Repeat("/", 1<<20), nil},
	} {
		if got := Cuts(c.s); !slices.Equal(got, c.cuts) {
			t.Errorf("P10.1: %s: Cuts: %v; want %v", c.what, got, c.cuts)
		}
		held(t, c.s)
	}
}

func TestMost(t *testing.T) {
	if got := Most(); got != 256 { // the chapter's example
		t.Errorf("P10.2: Most() = %d", got)
	}
	longest := 0
	for ahead := range 300 {
		for behind := range 300 {
			if _, _, ok := Split(of(ahead) + "/" + of(behind)); ok {
				longest = max(longest, ahead+1+behind)
			}
		}
	}
	if longest != Most() {
		t.Errorf("P10.2: the longest name that splits has %d bytes, Most() is %d", longest, Most())
	}
}

func TestOneSlash(t *testing.T) {
	for ahead := range 300 {
		for behind := range 300 {
			held(t, of(ahead)+"/"+of(behind))
		}
	}
}

func TestTwoSlashes(t *testing.T) {
	lengths := []int{0, 1, 2, 49, 50, 53, 54, 55, 98, 99, 100, 101, 153, 154, 155, 156, 157}
	for _, a := range lengths {
		for _, b := range lengths {
			for _, c := range lengths {
				held(t, of(a)+"/"+of(b)+"/"+of(c))
			}
		}
	}
}

// TestShort goes over all names of at most 5 bytes of five chosen ones.
func TestShort(t *testing.T) {
	names := []string{""}
	for range 6 {
		var longer []string
		for _, s := range names {
			held(t, s)
			for _, b := range []byte("/n\x00\xff.") {
				longer = append(longer, s+string([]byte{b}))
			}
		}
		names = longer
	}
}

func TestMadeUp(t *testing.T) {
	r := rand.New(rand.NewSource(10))
	for range 100000 {
		s := make([]byte, r.Intn(280))
		for i := range s {
			s[i] = byte(r.Intn(256))
		}
		for range r.Intn(6) {
			if len(s) > 0 {
				s[r.Intn(len(s))] = '/'
			}
		}
		held(t, string(s))
	}
}

// TestOwnMemory changes what was told, and asks again.
func TestOwnMemory(t *testing.T) {
	first := Cuts("a/b/c/d")
	for i := range first {
		first[i] = -1
	}
	if again := Cuts("a/b/c/d"); !slices.Equal(again, []int{1, 3, 5}) {
		t.Errorf("R4: Cuts, asked again: %v", again)
	}
}
