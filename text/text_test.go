package text

import (
	"bytes"
	"math"
	"math/big"
	"regexp"
	"strconv"
	"strings"
	"testing"

	"oakum/api"
)

const widest = 65536

func TestGet(t *testing.T) {
	for _, c := range []struct{ in, want string }{
		{"", ""},
		{"\x00", ""},
		{"\x00\x00\x00", ""},
		{"\x00ab", ""},
		{"ab\x00", "ab"},
		{"ab\x00c", "ab"},
		{"a\x00b\x00c", "a"},
		{"ab", "ab"},
		{" a ", " a "},
		{"\x01\xff\x80\x00\xff", "\x01\xff\x80"},
		{strings.Repeat("x", 100), strings.Repeat("x", 100)},
	} {
		b := []byte(c.in)
		if got := Get(b); got != c.want {
			t.Errorf("P2.1: Get of %q: %q; want %q", c.in, got, c.want)
		}
		if string(b) != c.in {
			t.Errorf("R4: Get of %q left %q", c.in, b)
		}
	}
	if got := Get(nil); got != "" {
		t.Errorf("P2.1: Get of nil: %q", got)
	}
}

func TestWhatIsGotIsKept(t *testing.T) {
	b := []byte("abc\x00")
	got := Get(b)
	copy(b, "xyz")
	if got != "abc" {
		t.Errorf("R4: what was got became %q", got)
	}
}

func TestPut(t *testing.T) {
	for _, c := range []struct {
		s    string
		w    int
		want string
		code api.Code
	}{
		{"ab", 4, "ab\x00\x00", api.Fine},
		{"ab", 3, "ab\x00", api.Fine},
		{"ab", 2, "ab", api.Fine},
		{"ab", 1, "", api.Field},
		{"ab", 0, "", api.Field},
		{"", 0, "", api.Fine},
		{"", 1, "\x00", api.Fine},
		{"", 3, "\x00\x00\x00", api.Fine},
		{" \xff\x01", 4, " \xff\x01\x00", api.Fine},
		{"\x00", 4, "", api.Form},
		{"\x00ab", 4, "", api.Form},
		{"ab\x00", 4, "", api.Form},
		{"ab\x00", 2, "", api.Form},
		{"a\x00b", 0, "", api.Form},
		{"a\x00b", -1, "", api.Arg},
		{"a\x00b", widest + 1, "", api.Arg},
		{"ab", -1, "", api.Arg},
		{"", -1, "", api.Arg},
		{"", widest + 1, "", api.Arg},
		{"", math.MinInt, "", api.Arg},
		{"", math.MaxInt, "", api.Arg},
		{"", widest, strings.Repeat("\x00", widest), api.Fine},
		{"a", widest, "a" + strings.Repeat("\x00", widest-1), api.Fine},
		{strings.Repeat("a", widest), widest, strings.Repeat("a", widest), api.Fine},
		{strings.Repeat("a", widest+1), widest, "", api.Field},
		{strings.Repeat("a", widest+1), widest + 1, "", api.Arg},
		{strings.Repeat("a", widest) + "\x00", widest, "", api.Form},
	} {
		b, code := Put(c.s, c.w)
		if string(b) != c.want || code != c.code {
			t.Errorf("P2.1: Put(%.20q, %d): %.20q, %v; want %.20q, %v", c.s, c.w, b, code, c.want, c.code)
		}
	}
}

func TestCut(t *testing.T) {
	for _, c := range []struct {
		s    string
		w    int
		want string
	}{
		{"abcd", 3, "abc"},
		{"abcd", 4, "abcd"},
		{"abcd", 6, "abcd\x00\x00"},
		{"abcd", 0, ""},
		{"", 0, ""},
		{"", 2, "\x00\x00"},
		{"ab\x00cd", 1, "a"},
		{"ab\x00cd", 2, "ab"},
		{"ab\x00cd", 3, "ab\x00"},
		{"ab\x00cd", 4, "ab\x00\x00"},
		{"ab\x00cd", 7, "ab\x00\x00\x00\x00\x00"},
		{"a\x00b\x00c", 5, "a\x00\x00\x00\x00"},
		{"\x00ab", 3, "\x00\x00\x00"},
		{"ab\x00", 3, "ab\x00"},
		{"\x00", 1, "\x00"},
		{"\xff\x01 ", 2, "\xff\x01"},
		{"abcd", -1, ""},
		{"abcd", widest + 1, ""},
		{"ab\x00cd", -1, ""},
		{"abcd", math.MinInt, ""},
		{"abcd", math.MaxInt, ""},
		{"a", widest, "a" + strings.Repeat("\x00", widest-1)},
		{strings.Repeat("a", widest), widest, strings.Repeat("a", widest)},
		{strings.Repeat("a", widest+1), widest, strings.Repeat("a", widest)},
		{strings.Repeat("a", widest-1) + "\x00b", widest, strings.Repeat("a", widest-1) + "\x00"},
	} {
		if b := Cut(c.s, c.w); string(b) != c.want {
			t.Errorf("P2.1: Cut(%.20q, %d): %.20q; want %.20q", c.s, c.w, b, c.want)
		}
	}
}

func TestClean(t *testing.T) {
	for _, c := range []struct {
		s    string
		want bool
	}{
		{"", true},
		{"ab", true},
		{" \x01\x7f\x80\xff", true},
		{"0", true},
		{"\x00", false},
		{"\x00ab", false},
		{"a\x00b", false},
		{"ab\x00", false},
		{strings.Repeat("a", 1000) + "\x00", false},
	} {
		if got := Clean(c.s); got != c.want {
			t.Errorf("P2.1: Clean(%.20q): %v", c.s, got)
		}
	}
	for c := range 256 {
		if got := Clean(string([]byte{'a', byte(c)})); got != (c != 0) {
			t.Errorf("P2.1: Clean of byte %d: %v", c, got)
		}
	}
}

func TestBlank(t *testing.T) {
	if !Blank(nil) || !Blank([]byte{}) {
		t.Error("P2.1: Blank of no bytes")
	}
	for _, length := range []int{1, 2, 7, 8, 9, 511, 512, 513} {
		b := make([]byte, length)
		if !Blank(b) {
			t.Errorf("P2.1: Blank of %d noughts", length)
		}
		for i := range b {
			for _, c := range []byte{1, ' ', '0', 128, 255} {
				b[i] = c
				if Blank(b) {
					t.Errorf("P2.1: Blank of %d bytes with %d at %d", length, c, i)
				}
			}
			b[i] = 0
		}
	}
}

// putByWords follows the words of the chapter byte by byte.
func putByWords(s string, w int) ([]byte, api.Code) {
	switch {
	case w < 0 || w > widest:
		return nil, api.Arg
	case strings.Contains(s, "\x00"):
		return nil, api.Form
	case len(s) > w:
		return nil, api.Field
	}
	return []byte(s + strings.Repeat("\x00", w-len(s))), api.Fine
}

func cutByWords(s string, w int) []byte {
	if w < 0 || w > widest {
		return nil
	}
	ahead, _, _ := strings.Cut(s, "\x00")
	if len(ahead) > w {
		ahead = ahead[:w]
	}
	return []byte(ahead + strings.Repeat("\x00", w-len(ahead)))
}

// eachText goes through all texts of at most so many of the letters.
func eachText(letters string, most int, use func(s string)) {
	var grow func(s string)
	grow = func(s string) {
		use(s)
		if len(s) == most {
			return
		}
		for i := range len(letters) {
			grow(s + letters[i:i+1])
		}
	}
	grow("")
}

func TestShortTextsInShortFields(t *testing.T) {
	eachText("\x00\x01 a\xff", 5, func(s string) {
		ahead, _, cut := strings.Cut(s, "\x00")
		if got := Get([]byte(s)); got != ahead {
			t.Fatalf("P2.1: Get of %q: %q; want %q", s, got, ahead)
		}
		if got := Clean(s); got == cut {
			t.Fatalf("P2.1: Clean(%q): %v", s, got)
		}
		if got := Blank([]byte(s)); got != (strings.Trim(s, "\x00") == "") {
			t.Fatalf("P2.1: Blank of %q: %v", s, got)
		}
		for w := -2; w <= 7; w++ {
			want, wantCode := putByWords(s, w)
			b, code := Put(s, w)
			if !bytes.Equal(b, want) || code != wantCode {
				t.Fatalf("P2.1: Put(%q, %d): %q, %v; want %q, %v", s, w, b, code, want, wantCode)
			}
			if got := Get(b); code == api.Fine && got != s {
				t.Fatalf("P2.4: Get(Put(%q, %d)): %q", s, w, got)
			}
			if b, want := Cut(s, w), cutByWords(s, w); !bytes.Equal(b, want) {
				t.Fatalf("P2.1: Cut(%q, %d): %q; want %q", s, w, b, want)
			}
		}
	})
}

func TestFieldsAreNew(t *testing.T) {
	for _, w := range []int{2, 8} {
		first, _ := Put("ab", w)
		clear(first)
		if again, _ := Put("ab", w); Get(again) != "ab" {
			t.Errorf("R4: Put again: %q", again)
		}
		first = Cut("ab", w)
		clear(first)
		if again := Cut("ab", w); Get(again) != "ab" {
			t.Errorf("R4: Cut again: %q", again)
		}
	}
}

func TestBlocksAndRest(t *testing.T) {
	for _, c := range []struct{ n, blocks, rest int64 }{
		{0, 0, 0},
		{1, 1, 511},
		{511, 1, 1},
		{512, 1, 0},
		{513, 2, 511},
		{1023, 2, 1},
		{1024, 2, 0},
		{1025, 3, 511},
		{1<<31 - 1, 1 << 22, 1},
		{1 << 31, 1 << 22, 0},
		{1<<32 + 1, 1<<23 + 1, 511},
		{math.MaxInt64, 1 << 54, 1},
		{math.MaxInt64 - 510, 1 << 54, 511},
		{math.MaxInt64 - 511, 1<<54 - 1, 0},
		{math.MaxInt64 - 512, 1<<54 - 1, 1},
		{-1, 0, 0},
		{-511, 0, 0},
		{-512, 0, 0},
		{-513, 0, 0},
		{math.MinInt64, 0, 0},
		{math.MinInt64 + 1, 0, 0},
	} {
		if got := Blocks(c.n); got != c.blocks {
			t.Errorf("P2.2: Blocks(%d): %d; want %d", c.n, got, c.blocks)
		}
		if got := Rest(c.n); got != c.rest {
			t.Errorf("P2.2: Rest(%d): %d; want %d", c.n, got, c.rest)
		}
	}
}

func TestRestFillsBlocks(t *testing.T) {
	block := big.NewInt(512)
	check := func(n int64) {
		blocks, rest := Blocks(n), Rest(n)
		if n < 0 {
			if blocks != 0 || rest != 0 {
				t.Fatalf("P2.2: of %d bytes: %d blocks, rest %d", n, blocks, rest)
			}
			return
		}
		taken := new(big.Int).Mul(big.NewInt(blocks), block)
		filled := new(big.Int).Add(big.NewInt(n), big.NewInt(rest))
		if rest < 0 || rest > 511 || taken.Cmp(filled) != 0 {
			t.Fatalf("P2.2: of %d bytes: %d blocks, rest %d", n, blocks, rest)
		}
	}
	for n := int64(-2000); n <= 5000; n++ {
		check(n)
	}
	for off := range int64(2000) {
		check(math.MaxInt64 - off)
		check(math.MinInt64 + off)
	}
}

func TestQuote(t *testing.T) {
	for _, c := range []struct{ s, want string }{
		{"", ""},
		{" \\a", "\\040\\134a"},
		{"a b\n\xff", "a\\040b\\012\\377"},
		{"\x00", "\\000"},
		{"\x01\x1f !", "\\001\\037\\040!"},
		{"~\x7f\x80", "~\\177\\200"},
		{"[\\]", "[\\134]"},
		{"\\040", "\\134040"},
		{"dir/file.txt", "dir/file.txt"},
		{"é", "\\303\\251"},
	} {
		if got := Quote(c.s); got != c.want {
			t.Errorf("P2.3: Quote(%q): %q; want %q", c.s, got, c.want)
		}
		if got, code := Unquote(c.want); got != c.s || code != api.Fine {
			t.Errorf("P2.3: Unquote(%q): %q, %v; want %q", c.want, got, code, c.s)
		}
	}
}

// quotedByWords is one byte as the chapter's words have it.
func quotedByWords(c byte) string {
	if c < 33 || c > 126 || c == '\\' {
		digits := strconv.FormatInt(int64(c), 8)
		return "\\" + strings.Repeat("0", 3-len(digits)) + digits
	}
	return string(rune(c))
}

func TestQuoteOfEachByte(t *testing.T) {
	for c := range 256 {
		want := "x" + quotedByWords(byte(c)) + "y"
		s := string([]byte{'x', byte(c), 'y'})
		if got := Quote(s); got != want {
			t.Errorf("P2.3: Quote of byte %d: %q; want %q", c, got, want)
		}
		if got, code := Unquote(want); got != s || code != api.Fine {
			t.Errorf("P2.3: Unquote(%q): %q, %v", want, got, code)
		}
	}
}

func TestUnquoteOfEachByteAsItIs(t *testing.T) {
	for c := range 256 {
		s := string([]byte{'x', byte(c)})
		want, wantCode := s, api.Fine
		if c < 33 || c > 126 || c == '\\' {
			want, wantCode = "", api.Form
		}
		if got, code := Unquote(s); got != want || code != wantCode {
			t.Errorf("P2.3: Unquote of byte %d: %q, %v; want %q, %v", c, got, code, want, wantCode)
		}
	}
}

func TestUnquoteOfEachCode(t *testing.T) {
	for n := range 512 {
		code := strconv.FormatInt(int64(n), 8)
		s := "a\\" + strings.Repeat("0", 3-len(code)) + code + "b"
		want, wantCode := "", api.Form
		if n <= 255 && quotedByWords(byte(n)) != string(rune(n)) {
			want, wantCode = string([]byte{'a', byte(n), 'b'}), api.Fine
		}
		if got, code := Unquote(s); got != want || code != wantCode {
			t.Errorf("P2.3: Unquote(%q): %q, %v; want %q, %v", s, got, code, want, wantCode)
		}
	}
}

func TestUnquoteOfWrongTexts(t *testing.T) {
	for _, s := range []string{
		"\\", "a\\", "\\0", "\\04", "a\\04", "\\\\", "\\a", "\\n", "\\04a", "\\0a0", "\\a40",
		"\\048", "\\084", "\\840", "\\04/", "\\04:", "\\ 40", "\\+40", "\\-40", "\\\\134",
		"\\400", "\\477", "\\777", "\\440", "\\041", "\\101", "\\133", "\\135", "\\176",
		" ", "a b", "a\x00", "\n", "\x7f", "\x80", "\xff", "é",
		"\\040 ", "good\\012but\\", "good\\012but\\41",
	} {
		if got, code := Unquote(s); got != "" || code != api.Form {
			t.Errorf("P2.3: Unquote(%q): %q, %v; want Form", s, got, code)
		}
	}
}

var quotedShape = regexp.MustCompile(`^(?:[!-\[\]-~]|\\(?:0[0-3][0-7]|040|134|177|[23][0-7][0-7]))*$`)

func TestShortTextsQuoted(t *testing.T) {
	quoted := map[string]string{}
	eachText("\x00 !0347\\~\x7f\xff", 4, func(s string) {
		q := Quote(s)
		if other, ok := quoted[q]; ok && other != s {
			t.Fatalf("P2.4: %q and %q are both quoted %q", s, other, q)
		}
		quoted[q] = s
		if !quotedShape.MatchString(q) {
			t.Fatalf("P2.3: Quote(%q): %q", s, q)
		}
		if got, code := Unquote(q); got != s || code != api.Fine {
			t.Fatalf("P2.4: Unquote(Quote(%q)): %q, %v", s, got, code)
		}
	})
}

func TestWhatIsUnquotedIsQuotedSo(t *testing.T) {
	eachText(" !01348\\\xff", 5, func(s string) {
		got, code := Unquote(s)
		switch {
		case quotedShape.MatchString(s) != (code == api.Fine):
			t.Fatalf("P2.3: Unquote(%q): %q, %v", s, got, code)
		case code == api.Fine && Quote(got) != s:
			t.Fatalf("P2.4: Quote(Unquote(%q)): %q", s, Quote(got))
		case code != api.Fine && (code != api.Form || got != ""):
			t.Fatalf("P2.3: Unquote(%q): %q, %v", s, got, code)
		}
	})
}

func TestLongTextsQuoted(t *testing.T) {
	for _, s := range []string{strings.Repeat("a", 100000), strings.Repeat("\\", 100000), strings.Repeat("\xff ", 50000)} {
		if got, code := Unquote(Quote(s)); got != s || code != api.Fine {
			t.Errorf("P2.4: Unquote(Quote(%.10q …)): %.10q …, %v", s, got, code)
		}
	}
}
