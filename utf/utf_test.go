package utf

import (
	"math"
	"strings"
	"testing"
)

// edges are the code points at which the number of bytes, or the lists of those that are some, begin and end.
var edges = []int{0, 1, 127, 128, 2047, 2048, 4095, 4096, 55295, 57344, 65533, 65534, 65535, 65536, 262143, 262144, 1114110, 1114111}

// laid is how a number is told in so many bytes, whether it is a code point and needs so many or not.
func laid(n, width int) string {
	six := func(part int) byte { return byte(128 + n/part%64) }
	switch width {
	case 1:
		return string([]byte{byte(n)})
	case 2:
		return string([]byte{byte(192 + n/64), six(1)})
	case 3:
		return string([]byte{byte(224 + n/4096), six(64), six(1)})
	}
	return string([]byte{byte(240 + n/262144), six(4096), six(64), six(1)})
}

// bytesOf are a code point's bytes, by the chapter's words.
func bytesOf(n int) string {
	switch {
	case n < 128:
		return laid(n, 1)
	case n < 2048:
		return laid(n, 2)
	case n < 65536:
		return laid(n, 3)
	}
	return laid(n, 4)
}

func isPoint(n int) bool { return 0 <= n && n <= 1114111 && (n < 55296 || n > 57343) }

// allPoints holds each code point's bytes.
func allPoints() map[string]bool {
	all := make(map[string]bool, 1114112)
	for n := 0; n <= 1114111; n++ {
		if isPoint(n) {
			all[bytesOf(n)] = true
		}
	}
	return all
}

// piece is a code point's bytes, or a byte that is part of none.
type piece struct {
	s     string
	right bool
}

// pieces parts a text from the left, by looking each beginning up among all code points' bytes.
func pieces(s string, points map[string]bool) []piece {
	var out []piece
	for s != "" {
		p := piece{s[:1], false}
		for w := 1; w <= 4 && w <= len(s); w++ {
			if points[s[:w]] {
				p = piece{s[:w], true}
			}
		}
		out = append(out, p)
		s = s[len(p.s):]
	}
	return out
}

// held asks all calls about a text, and holds what they answer against its pieces.
func held(t *testing.T, s string, points map[string]bool) {
	t.Helper()
	parts := pieces(s, points)
	first, at, mended := -1, 0, ""
	ends := map[int]bool{0: true}
	for _, p := range parts {
		if p.right {
			mended += p.s
		} else {
			mended += "\xef\xbf\xbd"
			if first < 0 {
				first = at
			}
		}
		at += len(p.s)
		ends[at] = true
	}
	if got := First(s); got != first {
		t.Fatalf("P5.1: First of %q: %d; want %d", s, got, first)
	}
	if got := Right(s); got != (first < 0) {
		t.Fatalf("P5.1: Right of %q: %v", s, got)
	}
	if got := Count(s); got != len(parts) {
		t.Fatalf("P5.1: Count of %q: %d; want %d", s, got, len(parts))
	}
	if got := Mend(s); got != mended {
		t.Fatalf("P5.2: Mend of %q: %q; want %q", s, got, mended)
	}
	want := ""
	for n := -1; n <= len(s)+2; n++ {
		if ends[n] {
			want = s[:n]
		}
		if got := Cut(s, n); got != want {
			t.Fatalf("P5.2: Cut of %q to %d: %q; want %q", s, n, got, want)
		}
	}
	mendedIsRight(t, s)
}

func mendedIsRight(t *testing.T, s string) {
	t.Helper()
	m := Mend(s)
	if !Right(m) || First(m) != -1 {
		t.Fatalf("P5.3: %q is mended as %q, wrong at %d", s, m, First(m))
	}
	if again := Mend(m); again != m {
		t.Fatalf("P5.3: %q is right, and mended as %q", m, again)
	}
	if Right(s) && m != s {
		t.Fatalf("P5.3: %q is right, and mended as %q", s, m)
	}
	if Count(m) != Count(s) {
		t.Fatalf("P5.1, P5.2: %q counts %d, and mended %d", s, Count(s), Count(m))
	}
}

func TestRightTexts(t *testing.T) {
	for _, c := range []struct {
		in    string
		count int
	}{
		{"", 0},
		{"\x00", 1},
		{"\x00\x00", 2},
		{"\x7f", 1},
		{"\xc2\x80", 1},
		{"\xdf\xbf", 1},
		{"\xe0\xa0\x80", 1},
		{"\xed\x9f\xbf", 1},
		{"\xee\x80\x80", 1},
		{"\xef\xbf\xbd", 1},
		{"\xef\xbf\xbd\xef\xbf\xbd", 2},
		{"\xef\xbf\xbf", 1},
		{"\xf0\x90\x80\x80", 1},
		{"\xf4\x8f\xbf\xbf", 1},
		{"abc", 3},
		{"a\u00e9\u20ac\U0001f600", 4},
		{strings.Repeat("\u20ac", 1000), 1000},
	} {
		if got := Right(c.in); !got {
			t.Errorf("P5.1: Right of %q: %v", c.in, got)
		}
		if got := First(c.in); got != -1 {
			t.Errorf("P5.1: First of %q: %d", c.in, got)
		}
		if got := Count(c.in); got != c.count {
			t.Errorf("P5.1: Count of %q: %d; want %d", c.in, got, c.count)
		}
		if got := Mend(c.in); got != c.in {
			t.Errorf("P5.3: Mend of %q: %q", c.in, got)
		}
	}
}

func TestWrongTexts(t *testing.T) {
	const x = "\xef\xbf\xbd"
	for _, c := range []struct {
		in    string
		first int
		count int
		out   string
	}{
		{"\xffa", 0, 2, x + "a"},
		{"a\xff", 1, 2, "a" + x},
		{"\x80", 0, 1, x},
		{"\xbf\xbf", 0, 2, x + x},
		{"\xc0\x80", 0, 2, x + x},
		{"\xc1\xbf", 0, 2, x + x},
		{"\xe0\x80\x80", 0, 3, x + x + x},
		{"\xe0\x9f\xbf", 0, 3, x + x + x},
		{"\xf0\x80\x80\x80", 0, 4, x + x + x + x},
		{"\xf0\x8f\xbf\xbd", 0, 4, x + x + x + x},
		{"\xed\xa0\x80", 0, 3, x + x + x},
		{"\xed\xbf\xbf", 0, 3, x + x + x},
		{"\xed\xa0\xbd\xed\xb8\x80", 0, 6, strings.Repeat(x, 6)},
		{"\xf4\x90\x80\x80", 0, 4, x + x + x + x},
		{"\xf5\x80\x80\x80", 0, 4, x + x + x + x},
		{"\xf8\x88\x80\x80\x80", 0, 5, strings.Repeat(x, 5)},
		{"\xfc\x84\x80\x80\x80\x80", 0, 6, strings.Repeat(x, 6)},
		{"\xe2\x82\xac\x80", 3, 2, "\u20ac" + x},
		{"\xc3", 0, 1, x},
		{"\xe2\x82", 0, 2, x + x},
		{"\xf0\x9f\x98", 0, 3, x + x + x},
		{"a\xe2\x82b", 1, 4, "a" + x + x + "b"},
		{"\xf0\x9f\x98\u00e9", 0, 4, x + x + x + "\u00e9"},
		{"\xc3\u00e9", 0, 2, x + "\u00e9"},
		{x + "\xef\xbf" + x, 3, 4, x + x + x + x},
		{x + "\xff", 3, 2, x + x},
		{"\xff" + x, 0, 2, x + x},
		{"\u00e9\xff\u00e9\xfe", 2, 4, "\u00e9" + x + "\u00e9" + x},
	} {
		if got := Right(c.in); got {
			t.Errorf("P5.1: Right of %q: %v", c.in, got)
		}
		if got := First(c.in); got != c.first {
			t.Errorf("P5.1: First of %q: %d; want %d", c.in, got, c.first)
		}
		if got := Count(c.in); got != c.count {
			t.Errorf("P5.1: Count of %q: %d; want %d", c.in, got, c.count)
		}
		if got := Mend(c.in); got != c.out {
			t.Errorf("P5.2: Mend of %q: %q; want %q", c.in, got, c.out)
		}
		if got := Mend(c.out); got != c.out {
			t.Errorf("P5.3: Mend of %q: %q", c.out, got)
		}
	}
}

func TestCut(t *testing.T) {
	for _, c := range []struct {
		in   string
		n    int
		want string
	}{
		{"", 0, ""},
		{"", 5, ""},
		{"", -1, ""},
		{"", math.MinInt, ""},
		{"abc", math.MinInt, ""},
		{"abc", -1, ""},
		{"abc", 0, ""},
		{"abc", 1, "a"},
		{"abc", 2, "ab"},
		{"abc", 3, "abc"},
		{"abc", 4, "abc"},
		{"abc", math.MaxInt, "abc"},
		{"\x00\x00", 1, "\x00"},
		{"\u00e9a", 0, ""},
		{"\u00e9a", 1, ""},
		{"\u00e9a", 2, "\u00e9"},
		{"\u00e9a", 3, "\u00e9a"},
		{"\u20aca", 1, ""},
		{"\u20aca", 2, ""},
		{"\u20aca", 3, "\u20ac"},
		{"a\u20ac", 1, "a"},
		{"a\u20ac", 2, "a"},
		{"a\u20ac", 3, "a"},
		{"a\u20ac", 4, "a\u20ac"},
		{"\U0001f600", 0, ""},
		{"\U0001f600", 1, ""},
		{"\U0001f600", 2, ""},
		{"\U0001f600", 3, ""},
		{"\U0001f600", 4, "\U0001f600"},
		{"\ufffd\ufffd", 2, ""},
		{"\ufffd\ufffd", 3, "\ufffd"},
		{"\ufffd\ufffd", 5, "\ufffd"},
		// Bytes that are part of no code point stand each alone.
		{"\xe2\x82", 1, "\xe2"},
		{"\xe2\x82b", 2, "\xe2\x82"},
		{"\xff\xff\xff", 2, "\xff\xff"},
		{"\xed\xa0\x80", 1, "\xed"},
		{"\xf4\x90\x80\x80", 3, "\xf4\x90\x80"},
		{"\xf0\x9f\u00e9", 2, "\xf0\x9f"},
		{"\xf0\x9f\u00e9", 3, "\xf0\x9f"},
		{"\xf0\x9f\u00e9", 4, "\xf0\x9f\u00e9"},
		{"\u20ac\x80a", 3, "\u20ac"},
		{"\u20ac\x80a", 4, "\u20ac\x80"},
	} {
		if got := Cut(c.in, c.n); got != c.want {
			t.Errorf("P5.2: Cut of %q to %d: %q; want %q", c.in, c.n, got, c.want)
		}
	}
}

func TestEachNumberInEachWidth(t *testing.T) {
	most := [5]int{0, 256, 32 * 64, 16 * 4096, 16 * 262144}
	for width := 1; width <= 4; width++ {
		for n := 0; n < most[width]; n++ {
			s := laid(n, width)
			want := isPoint(n) && s == bytesOf(n)
			if Right(s) != want {
				t.Fatalf("P5.1: %d in %d bytes, %q: Right is %v", n, width, s, !want)
			}
			if want && (Count(s) != 1 || Mend(s) != s) {
				t.Fatalf("P5.1, P5.2: %d, %q: %d, %q", n, s, Count(s), Mend(s))
			}
			if !want && (First(s) != 0 || Count(s) != width) {
				t.Fatalf("P5.1: %d in %d bytes, %q: %d, %d", n, width, s, First(s), Count(s))
			}
		}
	}
}

func TestEdgesSideBySide(t *testing.T) {
	points := allPoints()
	for _, a := range edges {
		for _, b := range edges {
			both := bytesOf(a) + bytesOf(b)
			held(t, both, points)
			if !Right(both) || Count(both) != 2 {
				t.Errorf("P5.1: %d and %d, %q: %v, %d", a, b, both, Right(both), Count(both))
			}
			// With any byte gone, or one more at any place, something else stands there.
			for at := range len(both) {
				held(t, both[:at]+both[at+1:], points)
				for _, more := range []string{"\x80", "\xbf", "\xc3", "\xff", "a"} {
					held(t, both[:at]+more+both[at:], points)
				}
			}
		}
	}
}

func TestAllShortTexts(t *testing.T) {
	points := allPoints()
	for a := range 256 {
		held(t, string([]byte{byte(a)}), points)
		for b := range 256 {
			held(t, string([]byte{byte(a), byte(b)}), points)
		}
	}
	// The bytes at which what may stand behind one changes.
	const turns = "\x00\x7f\x80\x8f\x90\x9f\xa0\xbd\xbf\xc1\xc2\xdf\xe0\xe1\xed\xee\xef\xf0\xf1\xf4\xf5\xff"
	var each func(s string, left int)
	each = func(s string, left int) {
		held(t, s, points)
		if left == 0 {
			return
		}
		for at := range len(turns) {
			each(s+turns[at:at+1], left-1)
		}
	}
	each("", 4)
}

func TestBytesThatAreNeverPart(t *testing.T) {
	for b := range 256 {
		if b != 192 && b != 193 && b < 245 {
			continue
		}
		for _, behind := range []string{"", "a", "\x80", "\x80\x80\x80", "\xbf\xbf\xbf\xbf\xbf"} {
			s := "a" + string([]byte{byte(b)}) + behind
			if First(s) != 1 || Right(s) || Count(s) != len(s) {
				t.Errorf("P5.1: %q: %d, %v, %d", s, First(s), Right(s), Count(s))
			}
			if got := Cut(s, 2); got != s[:2] {
				t.Errorf("P5.2: Cut of %q to 2: %q", s, got)
			}
		}
	}
}

func FuzzMendedIsRight(f *testing.F) {
	f.Add("a\xe2\x82b")
	f.Add("\xf4\x90\x80\x80\ufffd")
	f.Fuzz(func(t *testing.T, s string) { mendedIsRight(t, s) })
}
