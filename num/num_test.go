package num

import (
	"bytes"
	"math"
	"math/big"
	"regexp"
	"strings"
	"testing"

	"oakum/api"
)

type reading struct {
	in   string
	n    int64
	code api.Code
}

func checkReadings(t *testing.T, name string, read func([]byte) (int64, api.Code), all []reading) {
	t.Helper()
	for _, c := range all {
		if n, code := read([]byte(c.in)); n != c.n || code != c.code {
			t.Errorf("P1.1: %s of %q: %d, %v; want %d, %v", name, c.in, n, code, c.n, c.code)
		}
	}
}

func TestOctal(t *testing.T) {
	checkReadings(t, "Octal", Octal, []reading{
		{" 17\x00 ", 15, api.Fine},
		{"0000644\x00", 420, api.Fine},
		{"   644 \x00", 420, api.Fine},
		{"644", 420, api.Fine},
		{"7 \x00 \x00", 7, api.Fine},
		{"", 0, api.Fine},
		{" ", 0, api.Fine},
		{"\x00", 0, api.Fine},
		{"   \x00\x00", 0, api.Fine},
		{"\x00  \x00 ", 0, api.Fine},
		{"0", 0, api.Fine},
		{"777777777777777777777", math.MaxInt64, api.Fine},
		{strings.Repeat("0", 40) + "777777777777777777777 ", math.MaxInt64, api.Fine},
		{"1000000000000000000000", 0, api.Numeral},
		{"7777777777777777777777", 0, api.Numeral},
		{"2000000000000000000000", 0, api.Numeral},
		{strings.Repeat("7", 100), 0, api.Numeral},
		{"1" + strings.Repeat("0", 99), 0, api.Numeral},
		{"8", 0, api.Numeral},
		{"78", 0, api.Numeral},
		{"/", 0, api.Numeral},
		{"1 2", 0, api.Numeral},
		{"1\x002", 0, api.Numeral},
		{"\x001", 0, api.Numeral},
		{" \x001", 0, api.Numeral},
		{"-1", 0, api.Numeral},
		{"+1", 0, api.Numeral},
		{"\t1", 0, api.Numeral},
		{"1\n", 0, api.Numeral},
		{"1\x80", 0, api.Numeral},
		{"\x80\x01", 0, api.Numeral},
		{"\xff\xff", 0, api.Numeral},
	})
}

func TestWide(t *testing.T) {
	checkReadings(t, "Wide", Wide, []reading{
		{"\x80\x00", 0, api.Fine},
		{"\x80\x01", 1, api.Fine},
		{"\x80\xff", 255, api.Fine},
		{"\x80\x01\x00", 256, api.Fine},
		{"\xff\xff", -1, api.Fine},
		{"\xff\x00", -256, api.Fine},
		{"\xff\x00\x01", -65535, api.Fine},
		{"\xff\x7f\xff", -32769, api.Fine},
		{"\x80\x00\x00\x00\x01\x00\x00\x00", 1 << 24, api.Fine},
		{"\x80\xff\xff\xff\xff\xff\xff\xff", 1<<56 - 1, api.Fine},
		{"\xff\x00\x00\x00\x00\x00\x00\x00", -1 << 56, api.Fine},
		{"\x80\x7f\xff\xff\xff\xff\xff\xff\xff", math.MaxInt64, api.Fine},
		{"\x80\x80\x00\x00\x00\x00\x00\x00\x00", 0, api.Numeral},
		{"\xff\x80\x00\x00\x00\x00\x00\x00\x00", math.MinInt64, api.Fine},
		{"\xff\x7f\xff\xff\xff\xff\xff\xff\xff", 0, api.Numeral},
		{"\x80\x00\x7f\xff\xff\xff\xff\xff\xff\xff", math.MaxInt64, api.Fine},
		{"\x80\x01\x00\x00\x00\x00\x00\x00\x00\x00", 0, api.Numeral},
		{"\xff\xff\x80\x00\x00\x00\x00\x00\x00\x00", math.MinInt64, api.Fine},
		{"\xff\xfe\x80\x00\x00\x00\x00\x00\x00\x00", 0, api.Numeral},
		{"\xff\xfe\xff\xff\xff\xff\xff\xff\xff\xff", 0, api.Numeral},
		{"\x80" + strings.Repeat("\x00", 40) + "\x07", 7, api.Fine},
		{"\x80\x01" + strings.Repeat("\x00", 40), 0, api.Numeral},
		{strings.Repeat("\xff", 40) + "\xf0", -16, api.Fine},
		{"\xff" + strings.Repeat("\x00", 40), 0, api.Numeral},
		{"", 0, api.Numeral},
		{"\x80", 0, api.Numeral},
		{"\xff", 0, api.Numeral},
		{"\x81\x00", 0, api.Numeral},
		{"\xfe\xff", 0, api.Numeral},
		{"\x00\x01", 0, api.Numeral},
		{"17", 0, api.Numeral},
	})
}

func TestNilFields(t *testing.T) {
	if n, code := Octal(nil); n != 0 || code != api.Fine {
		t.Errorf("P1.1: Octal of nil: %d, %v", n, code)
	}
	if n, code := Wide(nil); n != 0 || code != api.Numeral {
		t.Errorf("P1.1: Wide of nil: %d, %v", n, code)
	}
	if n, code := Get(nil); n != 0 || code != api.Fine {
		t.Errorf("P1.1: Get of nil: %d, %v", n, code)
	}
}

func TestGet(t *testing.T) {
	checkReadings(t, "Get", Get, []reading{
		{"", 0, api.Fine},
		{" 17\x00 ", 15, api.Fine},
		{"\x80\x11", 17, api.Fine},
		{"\xff\xef", -17, api.Fine},
		{"\x7f1", 0, api.Numeral},
		{"\x80", 0, api.Numeral},
		{"\x81\x01", 0, api.Numeral},
		{"\xc0\x01", 0, api.Numeral},
		{"\xff", 0, api.Numeral},
		{" \x80\x01", 0, api.Numeral},
		{"9", 0, api.Numeral},
	})
}

var octalShape = regexp.MustCompile(`^ *([0-7]*)[\x00 ]*$`)

// octalByWords follows the words of the chapter with numbers of any size.
func octalByWords(b []byte) (int64, api.Code) {
	parts := octalShape.FindSubmatch(b)
	if parts == nil {
		return 0, api.Numeral
	}
	n, _ := new(big.Int).SetString("0"+string(parts[1]), 8)
	return in64Bits(n)
}

func wideByWords(b []byte) (int64, api.Code) {
	if len(b) < 2 || b[0] != 128 && b[0] != 255 {
		return 0, api.Numeral
	}
	n := new(big.Int).SetBytes(b[1:])
	if b[0] == 255 {
		n.Sub(n, power(256, len(b)-1))
	}
	return in64Bits(n)
}

func in64Bits(n *big.Int) (int64, api.Code) {
	if !n.IsInt64() {
		return 0, api.Numeral
	}
	return n.Int64(), api.Fine
}

func power(base int64, to int) *big.Int {
	return new(big.Int).Exp(big.NewInt(base), big.NewInt(int64(to)), nil)
}

func checkAgainstWords(t *testing.T, b []byte) {
	t.Helper()
	was := bytes.Clone(b)
	octal, octalCode := octalByWords(b)
	if n, code := Octal(b); n != octal || code != octalCode {
		t.Fatalf("P1.1: Octal of %q: %d, %v; want %d, %v", was, n, code, octal, octalCode)
	}
	wide, wideCode := wideByWords(b)
	if n, code := Wide(b); n != wide || code != wideCode {
		t.Fatalf("P1.1: Wide of %q: %d, %v; want %d, %v", was, n, code, wide, wideCode)
	}
	want, wantCode := octal, octalCode
	if len(b) > 0 && b[0] >= 128 {
		want, wantCode = wide, wideCode
	}
	if n, code := Get(b); n != want || code != wantCode {
		t.Fatalf("P1.1: Get of %q: %d, %v; want %d, %v", was, n, code, want, wantCode)
	}
	if !bytes.Equal(b, was) {
		t.Fatalf("R4: reading %q left %q", was, b)
	}
}

func TestAllShortFields(t *testing.T) {
	letters := []byte{0, 1, ' ', '/', '0', '1', '7', '8', 127, 128, 129, 254, 255}
	var grow func(b []byte, left int)
	grow = func(b []byte, left int) {
		checkAgainstWords(t, b)
		if left == 0 {
			return
		}
		for _, c := range letters {
			grow(append(b, c), left-1)
		}
	}
	grow(make([]byte, 0, 5), 5)
}

func TestEveryByteAtEveryPlace(t *testing.T) {
	for _, field := range []string{
		"0000644\x00", " 17\x00 ", "777777777777777777777", "0777777777777777777777",
		"\x80\x00\x00\x00\x00\x00\x00\x00", "\xff\xff\xff\xff\xff\xff\xff\xff",
		"\x80\x00\x00\x00\x7f\xff\xff\xff\xff\xff\xff\xff", "\xff\xff\xff\xff\x80\x00\x00\x00\x00\x00\x00\x00",
	} {
		for i := range field {
			for c := range 256 {
				b := []byte(field)
				b[i] = byte(c)
				checkAgainstWords(t, b)
			}
		}
	}
}

func TestLongWideFields(t *testing.T) {
	for _, first := range []byte{128, 255} {
		for _, ahead := range []byte{0, 255} {
			for many := range 34 {
				for _, tail := range []string{"", "\x00", "\x7f", "\x80", "\xff", "\x7f\xff\xff\xff\xff\xff\xff\xff", "\x80\x00\x00\x00\x00\x00\x00\x00", "\x01\x00\x00\x00\x00\x00\x00\x00\x00", "\xfe\xff\xff\xff\xff\xff\xff\xff\xff"} {
					b := append([]byte{first}, bytes.Repeat([]byte{ahead}, many)...)
					checkAgainstWords(t, append(b, tail...))
				}
			}
		}
	}
}

func TestPut(t *testing.T) {
	for _, c := range []struct {
		n    int64
		w    int
		wide bool
		want string
		code api.Code
	}{
		{420, 8, false, "0000644\x00", api.Fine},
		{420, 8, true, "0000644\x00", api.Fine},
		{0, 2, false, "0\x00", api.Fine},
		{7, 2, false, "7\x00", api.Fine},
		{8, 2, false, "10", api.Fine},
		{63, 2, true, "77", api.Fine},
		{64, 2, false, "", api.Numeral},
		{64, 2, true, "\x80\x40", api.Fine},
		{255, 2, true, "\x80\xff", api.Fine},
		{256, 2, true, "", api.Numeral},
		{-1, 2, true, "\xff\xff", api.Fine},
		{-256, 2, true, "\xff\x00", api.Fine},
		{-257, 2, true, "", api.Numeral},
		{1<<21 - 1, 8, false, "7777777\x00", api.Fine},
		{1 << 21, 8, false, "10000000", api.Fine},
		{1<<24 - 1, 8, true, "77777777", api.Fine},
		{1 << 24, 8, false, "", api.Numeral},
		{1 << 24, 8, true, "\x80\x00\x00\x00\x01\x00\x00\x00", api.Fine},
		{1<<56 - 1, 8, true, "\x80\xff\xff\xff\xff\xff\xff\xff", api.Fine},
		{1 << 56, 8, true, "", api.Numeral},
		{-1, 8, false, "", api.Numeral},
		{-1, 8, true, "\xff\xff\xff\xff\xff\xff\xff\xff", api.Fine},
		{-1 << 56, 8, true, "\xff\x00\x00\x00\x00\x00\x00\x00", api.Fine},
		{-1<<56 - 1, 8, true, "", api.Numeral},
		{math.MaxInt64, 9, true, "\x80\x7f\xff\xff\xff\xff\xff\xff\xff", api.Fine},
		{math.MinInt64, 9, true, "\xff\x80\x00\x00\x00\x00\x00\x00\x00", api.Fine},
		{math.MinInt64, 12, true, "\xff\xff\xff\xff\x80\x00\x00\x00\x00\x00\x00\x00", api.Fine},
		{math.MaxInt64, 20, false, "", api.Numeral},
		{math.MaxInt64, 21, false, "777777777777777777777", api.Fine},
		{math.MaxInt64, 22, true, "777777777777777777777\x00", api.Fine},
		{1, 32, false, strings.Repeat("0", 30) + "1\x00", api.Fine},
		{math.MaxInt64, 32, false, "0000000000777777777777777777777\x00", api.Fine},
		{math.MinInt64, 32, true, strings.Repeat("\xff", 24) + "\x80\x00\x00\x00\x00\x00\x00\x00", api.Fine},
		{math.MinInt64, 32, false, "", api.Numeral},
		{0, 1, true, "", api.Arg},
		{0, 33, true, "", api.Arg},
		{-1, 1, false, "", api.Arg},
		{-1, 33, false, "", api.Arg},
		{0, 0, false, "", api.Arg},
		{0, -1, true, "", api.Arg},
		{math.MaxInt64, math.MaxInt, true, "", api.Arg},
		{math.MinInt64, math.MinInt, true, "", api.Arg},
	} {
		b, code := Put(c.n, c.w, c.wide)
		if string(b) != c.want || code != c.code {
			t.Errorf("P1.2: Put(%d, %d, %v): %q, %v; want %q, %v", c.n, c.w, c.wide, b, code, c.want, c.code)
		}
	}
}

// edges are the numbers about which something changes in some width.
func edges() []int64 {
	all := []int64{math.MinInt64, math.MinInt64 + 1, math.MaxInt64 - 1, math.MaxInt64}
	for k := range 63 {
		for _, off := range []int64{-1, 0, 1} {
			all = append(all, int64(1)<<k+off, -(int64(1)<<k)+off)
		}
	}
	return append(all, 420, 0x0123456789abcdef, -0x0123456789abcdef)
}

// putByWords follows the words of the chapter with numbers of any size.
func putByWords(n int64, w int, wide bool) ([]byte, api.Code) {
	if w < 2 || w > 32 {
		return nil, api.Arg
	}
	v := big.NewInt(n)
	if v.Sign() >= 0 && v.Cmp(power(8, w)) < 0 {
		text := v.Text(8)
		if v.Cmp(power(8, w-1)) < 0 {
			return []byte(strings.Repeat("0", w-1-len(text)) + text + "\x00"), api.Fine
		}
		return []byte(text), api.Fine
	}
	span := power(256, w-1)
	if !wide || v.Cmp(span) >= 0 || v.Cmp(new(big.Int).Neg(span)) < 0 {
		return nil, api.Numeral
	}
	b := make([]byte, w)
	b[0] = 128
	if v.Sign() < 0 {
		b[0] = 255
		v.Add(v, span)
	}
	v.FillBytes(b[1:])
	return b, api.Fine
}

func TestPutAtAllWidths(t *testing.T) {
	for _, n := range edges() {
		for w := -2; w <= 40; w++ {
			for _, wide := range []bool{false, true} {
				want, wantCode := putByWords(n, w, wide)
				b, code := Put(n, w, wide)
				if !bytes.Equal(b, want) || code != wantCode {
					t.Fatalf("P1.2: Put(%d, %d, %v): %q, %v; want %q, %v", n, w, wide, b, code, want, wantCode)
				}
			}
		}
	}
}

func TestMost(t *testing.T) {
	for w := -2; w <= 70; w++ {
		want := int64(math.MaxInt64)
		if w < 1 {
			want = 0
		} else if v := power(8, w); v.IsInt64() {
			want = v.Int64() - 1
		}
		if got := Most(w); got != want {
			t.Errorf("P1.2: Most(%d): %d; want %d", w, got, want)
		}
	}
	if Most(math.MinInt) != 0 || Most(math.MaxInt) != math.MaxInt64 {
		t.Error("P1.2: Most at the ends of w")
	}
}

func TestMostIsTheGreatestPut(t *testing.T) {
	for w := 2; w <= 32; w++ {
		most := Most(w)
		if _, code := Put(most, w, false); code != api.Fine {
			t.Errorf("P1.2: Put(Most(%d)): %v", w, code)
		}
		if most == math.MaxInt64 {
			continue
		}
		if _, code := Put(most+1, w, false); code != api.Numeral {
			t.Errorf("P1.2: Put(Most(%d) + 1): %v", w, code)
		}
	}
}

func TestWhatIsPutIsGot(t *testing.T) {
	for _, n := range edges() {
		for w := 2; w <= 32; w++ {
			for _, wide := range []bool{false, true} {
				b, code := Put(n, w, wide)
				if code != api.Fine {
					continue
				}
				if len(b) != w {
					t.Fatalf("P1.2: Put(%d, %d, %v): %d bytes", n, w, wide, len(b))
				}
				if got, code := Get(b); got != n || code != api.Fine {
					t.Fatalf("P1.3: Get(Put(%d, %d, %v)): %d, %v", n, w, wide, got, code)
				}
			}
		}
	}
}

func TestWhatIsPutIsNew(t *testing.T) {
	for _, n := range []int64{0, 420, 1 << 30, -1} {
		first, _ := Put(n, 8, true)
		want := bytes.Clone(first)
		clear(first)
		if again, _ := Put(n, 8, true); !bytes.Equal(again, want) {
			t.Errorf("R4: Put(%d) again: %q; want %q", n, again, want)
		}
	}
}
