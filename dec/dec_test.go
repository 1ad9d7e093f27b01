package dec

import (
	"math"
	"math/big"
	"math/rand"
	"regexp"
	"strings"
	"testing"

	"oakum/api"
)

const (
	least    = math.MinInt64
	greatest = math.MaxInt64
)

// The forms that the chapter's words give to texts.
var (
	numberForm = regexp.MustCompile(`\A(0|[1-9][0-9]*)\z`)
	timeForm   = regexp.MustCompile(`\A-?(0|[1-9][0-9]*)(\.[0-9]{1,9})?\z`)
)

// numberOf is what Number promises, reckoned with numbers of any size.
func numberOf(s string) (int64, api.Code) {
	n, ok := new(big.Int).SetString(s, 10)
	if !numberForm.MatchString(s) || !ok || !n.IsInt64() {
		return 0, api.Form
	}
	return n.Int64(), api.Fine
}

// timeOf is what Time promises, reckoned in billionths of any number.
func timeOf(s string) (api.Time, api.Code) {
	if !timeForm.MatchString(s) {
		return api.Time{}, api.Form
	}
	value, _ := new(big.Rat).SetString(s)
	value.Mul(value, big.NewRat(1000000000, 1))
	sec, nano := new(big.Int).DivMod(value.Num(), big.NewInt(1000000000), new(big.Int))
	if !sec.IsInt64() {
		return api.Time{}, api.Form
	}
	return api.Time{Sec: sec.Int64(), Nano: nano.Int64()}, api.Fine
}

// shortTexts are all texts of at most n of these bytes.
func shortTexts(bytes string, n int) []string {
	all := []string{""}
	last := all
	for range n {
		var longer []string
		for _, s := range last {
			for i := range len(bytes) {
				longer = append(longer, s+bytes[i:i+1])
			}
		}
		all = append(all, longer...)
		last = longer
	}
	return all
}

// wrongNumbers are no texts of numbers from 0 on, and no times' texts either.
func wrongNumbers() []string {
	return []string{
		"", " ", "-", "+", ".", "a", "\x00", "x1", "1x", "1\x00", "1\n",
		"00", "01", "007", "00000000000000000001", "0000000000000000000000000000000",
		"+0", "+1", "--1", "-+1", "+-1", "1-", "1+", "- 1", " 1", "1 ", "1 2", "\t1", "1_0", "1,0",
		"0x1", "0b1", "0o7", "1e3", "1E3", "Inf", "NaN", "nil",
		"9223372036854775808x", "18446744073709551616", "18446744073709551617", "18446744073709551615",
		"9223372036854775808", "9223372036854775809", "9223372036854775810", "10000000000000000000",
		"92233720368547758070", "99999999999999999999", "184467440737095516160",
		"١", "１", strings.Repeat("9", 1000), "1" + strings.Repeat("0", 5000), strings.Repeat("0", 5000),
	}
}

func TestNumber(t *testing.T) {
	for _, c := range []struct {
		s    string
		want int64
	}{
		{"0", 0}, {"1", 1}, {"7", 7}, {"9", 9}, {"10", 10}, {"42", 42}, {"100", 100}, {"1000000000", 1000000000},
		{"2147483647", 1<<31 - 1}, {"4294967296", 1 << 32}, {"999999999999999999", 999999999999999999}, {"1000000000000000000", 1000000000000000000},
		{"9223372036854775799", greatest - 8}, {"9223372036854775806", greatest - 1}, {"9223372036854775807", greatest},
	} {
		if n, code := Number(c.s); n != c.want || code != api.Fine {
			t.Errorf("P4.1: Number of %q: %d, %v; want %d", c.s, n, code, c.want)
		}
	}
	below := []string{"-0", "-1", "-5", "-00", "-9223372036854775807", "-9223372036854775808", "-9223372036854775809", "-18446744073709551615"}
	parts := []string{"0.", "1.", ".5", "0.0", "1.0", "1.5", "1.000000000", "."}
	for _, s := range append(append(wrongNumbers(), below...), parts...) {
		if n, code := Number(s); n != 0 || code != api.Form {
			t.Errorf("P4.1: Number of %q: %d, %v; want form", s, n, code)
		}
	}
}

func TestNumberOfShortTexts(t *testing.T) {
	for _, s := range shortTexts("0159-+. _a\x00\xb2/:", 4) {
		n, code := Number(s)
		if want, wantCode := numberOf(s); n != want || code != wantCode {
			t.Errorf("P4.1: Number of %q: %d, %v; want %d, %v", s, n, code, want, wantCode)
		}
	}
}

func TestOneByteMore(t *testing.T) {
	for c := range 256 {
		other := string([]byte{byte(c)})
		for _, s := range []string{other, other + "1", "1" + other, "1" + other + "1", "1." + other, "1.5" + other, "1.5" + other + "5", "-" + other + "1", "-" + other} {
			n, code := Number(s)
			if want, wantCode := numberOf(s); n != want || code != wantCode {
				t.Errorf("P4.1: Number of %q: %d, %v; want %d, %v", s, n, code, want, wantCode)
			}
			x, code := Time(s)
			if want, wantCode := timeOf(s); x != want || code != wantCode {
				t.Errorf("P4.2: Time of %q: %v, %v; want %v, %v", s, x, code, want, wantCode)
			}
		}
	}
}

func TestText(t *testing.T) {
	for _, c := range []struct {
		n    int64
		want string
	}{
		{0, "0"}, {1, "1"}, {-1, "-1"}, {9, "9"}, {10, "10"}, {-10, "-10"}, {99, "99"}, {-100, "-100"},
		{1 << 31, "2147483648"}, {-1 << 31, "-2147483648"}, {1 << 32, "4294967296"},
		{greatest, "9223372036854775807"}, {greatest - 1, "9223372036854775806"},
		{least, "-9223372036854775808"}, {least + 1, "-9223372036854775807"},
	} {
		if s := Text(c.n); s != c.want {
			t.Errorf("P4.1: Text of %d: %q; want %q", c.n, s, c.want)
		}
	}
}

func TestTextIsRead(t *testing.T) {
	for _, n := range someNumbers() {
		s := Text(n)
		if want := big.NewInt(n).String(); s != want {
			t.Errorf("P4.1: Text of %d: %q; want %q", n, s, want)
		}
		read, code := Number(s)
		if n >= 0 && (read != n || code != api.Fine) {
			t.Errorf("P4.1: Number of %q: %d, %v", s, read, code)
		}
		if n < 0 && (read != 0 || code != api.Form) {
			t.Errorf("P4.1: Number of %q: %d, %v; want form", s, read, code)
		}
	}
}

// someNumbers lie about the powers of 2 and of 10, about the ends of 64 bits, and anywhere.
func someNumbers() []int64 {
	all := []int64{least, least + 1, least + 2, greatest, greatest - 1, greatest - 2}
	for n := int64(-1100); n <= 1100; n++ {
		all = append(all, n)
	}
	for bit := range 63 {
		n := int64(1) << bit
		all = append(all, n-1, n, n+1, -n-1, -n, -n+1)
	}
	for n := int64(1); n <= greatest/10; n *= 10 {
		all = append(all, 10*n-1, 10*n, 10*n+1, -10*n-1, -10*n, -10*n+1)
	}
	dice := rand.New(rand.NewSource(4))
	for range 2000 {
		all = append(all, int64(dice.Uint64()), int64(dice.Uint64())>>dice.Intn(64))
	}
	return all
}

func TestTime(t *testing.T) {
	for _, c := range []struct {
		s    string
		want api.Time
	}{
		{"0", api.Time{}}, {"-0", api.Time{}}, {"0.0", api.Time{}}, {"-0.0", api.Time{}}, {"0.000000000", api.Time{}}, {"-0.000000000", api.Time{}},
		{"1", api.Time{Sec: 1}}, {"-1", api.Time{Sec: -1}}, {"1.0", api.Time{Sec: 1}}, {"-1.0", api.Time{Sec: -1}},
		{"1.000000000", api.Time{Sec: 1}}, {"-1.000000000", api.Time{Sec: -1}},
		{"0.5", api.Time{Nano: 500000000}}, {"-0.5", api.Time{Sec: -1, Nano: 500000000}},
		{"1.5", api.Time{Sec: 1, Nano: 500000000}}, {"1.50", api.Time{Sec: 1, Nano: 500000000}}, {"1.500000000", api.Time{Sec: 1, Nano: 500000000}},
		{"-1.5", api.Time{Sec: -2, Nano: 500000000}}, {"-1.50", api.Time{Sec: -2, Nano: 500000000}},
		{"1.05", api.Time{Sec: 1, Nano: 50000000}}, {"1.005", api.Time{Sec: 1, Nano: 5000000}},
		{"1.123456789", api.Time{Sec: 1, Nano: 123456789}}, {"-1.123456789", api.Time{Sec: -2, Nano: 876543211}},
		{"0.000000001", api.Time{Nano: 1}}, {"-0.000000001", api.Time{Sec: -1, Nano: 999999999}},
		{"0.999999999", api.Time{Nano: 999999999}}, {"-0.999999999", api.Time{Sec: -1, Nano: 1}},
		{"0.1", api.Time{Nano: 100000000}}, {"0.01", api.Time{Nano: 10000000}}, {"0.00000001", api.Time{Nano: 10}},
		{"9223372036854775807", api.Time{Sec: greatest}}, {"9223372036854775807.0", api.Time{Sec: greatest}},
		{"9223372036854775807.000000001", api.Time{Sec: greatest, Nano: 1}}, {"9223372036854775807.999999999", api.Time{Sec: greatest, Nano: 999999999}},
		{"-9223372036854775807", api.Time{Sec: least + 1}}, {"-9223372036854775807.0", api.Time{Sec: least + 1}},
		{"-9223372036854775807.000000001", api.Time{Sec: least, Nano: 999999999}}, {"-9223372036854775807.999999999", api.Time{Sec: least, Nano: 1}},
		{"-9223372036854775806.5", api.Time{Sec: least + 1, Nano: 500000000}},
		{"-9223372036854775808", api.Time{Sec: least}}, {"-9223372036854775808.0", api.Time{Sec: least}}, {"-9223372036854775808.000000000", api.Time{Sec: least}},
	} {
		if x, code := Time(c.s); x != c.want || code != api.Fine {
			t.Errorf("P4.2: Time of %q: %v, %v; want %v", c.s, x, code, c.want)
		}
	}
}

func TestWrongTimes(t *testing.T) {
	wrong := append(wrongNumbers(),
		"1.", "-1.", "0.", "-0.", ".5", "-.5", ".0", "-.", "..", "1..5", "1.2.3", "1.2.", ".1.2", "1.5.",
		"1.0000000000", "1.1234567891", "0.0000000000", "1.5000000000", "1.0000000001", "-1.0000000001", "1.00000000000000000000",
		"-00", "-01", "00.5", "01.5", "-01.5", "-00.5", "--1", "--0.5", "-", "- 1", "-+1", "+1.5", "1.-5", "1.+5", "1.5-", "1.5+", "1-.5",
		" 1.5", "1.5 ", "1. 5", "1 .5", "1.5\n", "\t1.5", "1.5\x00", "1\x00.5", "1,5", "1.5e1", "1e1.5", "1.0x5", "1._5", "1.5_0", "0x1.5", "1.a",
		"9223372036854775808", "9223372036854775808.0", "9223372036854775808.5", "9223372036854775809.5", "18446744073709551615.5", "18446744073709551616.5",
		"-9223372036854775808.1", "-9223372036854775808.000000001", "-9223372036854775808.999999999", "-9223372036854775809", "-9223372036854775809.0", "-9223372036854775809.5",
		"-18446744073709551615", "-18446744073709551615.5", "-18446744073709551615.999999999", "-18446744073709551616", "-18446744073709551616.5", "-18446744073709551617.5",
		"-99999999999999999999.5", "-"+strings.Repeat("9", 1000), "1."+strings.Repeat("0", 1000),
	)
	for _, s := range wrong {
		if x, code := Time(s); x != (api.Time{}) || code != api.Form {
			t.Errorf("P4.2: Time of %q: %v, %v; want form", s, x, code)
		}
		if _, code := timeOf(s); code != api.Form {
			t.Errorf("the test's own words make a time of %q", s)
		}
	}
}

func TestTimeOfShortTexts(t *testing.T) {
	for _, s := range shortTexts("059-.+ ", 5) {
		x, code := Time(s)
		if want, wantCode := timeOf(s); x != want || code != wantCode {
			t.Errorf("P4.2: Time of %q: %v, %v; want %v, %v", s, x, code, want, wantCode)
		}
	}
}

func TestTimeAtTheEnds(t *testing.T) {
	wholes := []string{"0", "1", "9223372036854775806", "9223372036854775807", "9223372036854775808", "9223372036854775809", "18446744073709551614", "18446744073709551615", "18446744073709551616", "18446744073709551617"}
	parts := []string{"", ".", ".0", ".1", ".9", ".50", ".000000000", ".000000001", ".999999999", ".0000000000", ".9999999999"}
	for _, sign := range []string{"", "-", "+", "--"} {
		for _, whole := range wholes {
			for _, part := range parts {
				s := sign + whole + part
				x, code := Time(s)
				if want, wantCode := timeOf(s); x != want || code != wantCode {
					t.Errorf("P4.2: Time of %q: %v, %v; want %v, %v", s, x, code, want, wantCode)
				}
			}
		}
	}
}

func TestPrint(t *testing.T) {
	for _, c := range []struct {
		t    api.Time
		want string
	}{
		{api.Time{}, "0"}, {api.Time{Sec: 1}, "1"}, {api.Time{Sec: -1}, "-1"}, {api.Time{Sec: 10}, "10"}, {api.Time{Sec: -100}, "-100"},
		{api.Time{Nano: 1}, "0.000000001"}, {api.Time{Nano: 999999999}, "0.999999999"}, {api.Time{Nano: 500000000}, "0.5"},
		{api.Time{Sec: 1, Nano: 500000000}, "1.5"}, {api.Time{Sec: 1, Nano: 50000000}, "1.05"}, {api.Time{Sec: 1, Nano: 120}, "1.00000012"},
		{api.Time{Sec: 10, Nano: 100000000}, "10.1"}, {api.Time{Sec: 1, Nano: 101000000}, "1.101"},
		{api.Time{Sec: -1, Nano: 500000000}, "-0.5"}, {api.Time{Sec: -1, Nano: 1}, "-0.999999999"}, {api.Time{Sec: -1, Nano: 999999999}, "-0.000000001"},
		{api.Time{Sec: -2, Nano: 750000000}, "-1.25"}, {api.Time{Sec: -11, Nano: 900000000}, "-10.1"}, {api.Time{Sec: -2, Nano: 1}, "-1.999999999"},
		{api.Time{Sec: greatest}, "9223372036854775807"}, {api.Time{Sec: greatest, Nano: 1}, "9223372036854775807.000000001"}, {api.Time{Sec: greatest, Nano: 999999999}, "9223372036854775807.999999999"},
		{api.Time{Sec: least}, "-9223372036854775808"}, {api.Time{Sec: least, Nano: 1}, "-9223372036854775807.999999999"}, {api.Time{Sec: least, Nano: 999999999}, "-9223372036854775807.000000001"},
		{api.Time{Sec: least, Nano: 500000000}, "-9223372036854775807.5"}, {api.Time{Sec: least + 1}, "-9223372036854775807"},
	} {
		if s, code := Print(c.t); s != c.want || code != api.Fine {
			t.Errorf("P4.2: Print of %v: %q, %v; want %q", c.t, s, code, c.want)
		}
	}
}

func TestReadAndPrinted(t *testing.T) {
	for _, c := range []struct{ s, want string }{
		{"1.50", "1.5"}, {"-0", "0"}, {"-0.0", "0"}, {"0.000000000", "0"}, {"-0.5", "-0.5"}, {"-0.500000000", "-0.5"}, {"7.0", "7"}, {"-7.000", "-7"}, {"100", "100"}, {"100.100", "100.1"},
		{"-9223372036854775808.000000000", "-9223372036854775808"},
	} {
		x, _ := Time(c.s)
		if s, code := Print(x); s != c.want || code != api.Fine {
			t.Errorf("P4.2: %q read and printed: %q, %v; want %q", c.s, s, code, c.want)
		}
	}
}

// wrongTimes are those whose Nano is none.
func wrongTimes() []api.Time {
	var all []api.Time
	for _, nano := range []int64{-1, -2, -500000000, -999999999, -1000000000, 1000000000, 1000000001, 1999999999, 1 << 31, 1 << 32, 1<<32 + 5, greatest, least, least + 1} {
		for _, sec := range []int64{0, 1, -1, 100, greatest, least} {
			all = append(all, api.Time{Sec: sec, Nano: nano})
		}
	}
	return all
}

func TestWrongTimesArePrintedForm(t *testing.T) {
	for _, x := range wrongTimes() {
		if s, code := Print(x); s != "" || code != api.Form {
			t.Errorf("P4.2: Print of %v: %q, %v; want form", x, s, code)
		}
	}
}

func TestRight(t *testing.T) {
	for _, sec := range []int64{0, 1, -1, 100, greatest, least} {
		for _, nano := range []int64{0, 1, 500000000, 999999998, 999999999} {
			if x := (api.Time{Sec: sec, Nano: nano}); !Right(x) {
				t.Errorf("P4.2: %v isn't right", x)
			}
		}
	}
	for _, x := range wrongTimes() {
		if Right(x) {
			t.Errorf("P4.2: %v is right", x)
		}
	}
}

// someTimes are right ones in their order.
func someTimes() []api.Time {
	var all []api.Time
	for _, sec := range []int64{least, least + 1, -1000000000, -2, -1, 0, 1, 2, 1000000000, greatest - 1, greatest} {
		for _, nano := range []int64{0, 1, 10, 500000000, 999999990, 999999999} {
			all = append(all, api.Time{Sec: sec, Nano: nano})
		}
	}
	return all
}

func TestBefore(t *testing.T) {
	times := someTimes()
	for i, a := range times {
		for k, b := range times {
			if got := Before(a, b); got != (i < k) {
				t.Errorf("P4.2: Before of %v and %v: %v", a, b, got)
			}
		}
	}
	for _, wrong := range wrongTimes() {
		for _, other := range append(times, wrongTimes()...) {
			if Before(wrong, other) || Before(other, wrong) {
				t.Errorf("P4.2: %v and %v have an order", wrong, other)
			}
		}
	}
}

func TestWhatIsPrintedIsRead(t *testing.T) {
	times := someTimes()
	dice := rand.New(rand.NewSource(5))
	for _, sec := range someNumbers() {
		nano := dice.Int63n(1000000000)
		rounded := nano - nano%int64(math.Pow10(dice.Intn(10)))
		times = append(times, api.Time{Sec: sec}, api.Time{Sec: sec, Nano: nano}, api.Time{Sec: sec, Nano: rounded})
	}
	for _, x := range times {
		s, code := Print(x)
		if code != api.Fine {
			t.Errorf("P4.2: Print of %v: %v", x, code)
		}
		if read, code := Time(s); read != x || code != api.Fine {
			t.Errorf("P4.3: %v, printed %q, is read %v, %v", x, s, read, code)
		}
		if want, _ := timeOf(s); want != x {
			t.Errorf("P4.2: %v is printed %q, which is %v", x, s, want)
		}
		if !isShortest(s) {
			t.Errorf("P4.2: %v is printed %q, which isn't the shortest text", x, s)
		}
	}
}

// isShortest holds a time's text against the chapter's words of the shortest one.
func isShortest(s string) bool {
	if !strings.Contains(s, ".") {
		return s != "-0"
	}
	return !strings.HasSuffix(s, "0") && !strings.HasSuffix(s, ".")
}

func TestNoTextIsShorter(t *testing.T) {
	texts := append(shortTexts("012-.", 6), shortTexts("09-.", 6)...)
	for _, s := range texts {
		x, code := timeOf(s)
		if code != api.Fine {
			continue
		}
		if printed, code := Print(x); len(printed) > len(s) || code != api.Fine {
			t.Errorf("P4.3: %v is printed %q, %v, though %q is a text of it", x, printed, code, s)
		}
	}
	// Texts of many digits, with noughts behind them as far as there may be some.
	for _, x := range someTimes() {
		printed, _ := Print(x)
		longer := printed
		if !strings.Contains(longer, ".") {
			longer += "."
		}
		for k := len(longer) - strings.Index(longer, "."); k < 10; k++ {
			longer += "0"
			if read, code := Time(longer); read != x || code != api.Fine {
				t.Errorf("P4.3: %v, also told %q, is read %v, %v", x, longer, read, code)
			}
		}
		if read, code := Time(longer + "0"); read != (api.Time{}) || code != api.Form {
			t.Errorf("P4.2: Time of %q: %v, %v; want form", longer+"0", read, code)
		}
	}
}
