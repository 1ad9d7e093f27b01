package pax

import (
	"bytes"
	"fmt"
	"math/big"
	"math/rand"
	"regexp"
	"slices"
	"strconv"
	"strings"
	"testing"
	"unicode/utf8"

	"oakum/api"
)

func pair(key, value string) api.Pair { return api.Pair{Key: key, Value: value} }

// The keys that are known, by what their values must be.
func nameKeys() []string   { return []string{"path", "linkpath", "uname", "gname"} }
func numberKeys() []string { return []string{"uid", "gid", "size"} }
func timeKeys() []string   { return []string{"mtime"} }

func knownKeys() []string {
	return slices.Concat(nameKeys(), numberKeys(), timeKeys())
}

// nearKeys are not known, though they look nearly so.
func nearKeys() []string {
	near := []string{"", " ", "a", "x", "mode", "name", "link", "user", "group", "atime", "ctime", "time", "comment", "charset", "hdrcharset",
		"devmajor", "devminor", "GNU.sparse.size", "SCHILY.path", "path\x00", "path=", "\x00path", "uidgid", "\xff", "é"}
	for _, key := range knownKeys() {
		near = append(near, key+" ", " "+key, key+"\n", strings.ToUpper(key), key[:len(key)-1], key[1:], key+key, key+"s", key+".x")
	}
	return near
}

// rightNumbers and wrongNumbers are values of uid, gid and size.
func rightNumbers() []string {
	return []string{"0", "1", "9", "10", "42", "1000", "2147483648", "8589934592", "9223372036854775806", "9223372036854775807"}
}

func wrongNumbers() []string {
	return []string{" ", "-", "-0", "-1", "+1", "00", "01", "007", "1.0", "1.", ".5", " 1", "1 ", "1\n", "1\x00", "\x00", "a", "1a", "0x1", "1_0", "1e3", "=", "1=1",
		"9223372036854775808", "18446744073709551616", "99999999999999999999", "\xff", "1\xff", "１"}
}

// rightTimes and wrongTimes are values of mtime.
func rightTimes() []string {
	return append(rightNumbers(), "-0", "-1", "0.0", "-0.5", "1.5", "1.50", "1.500000000", "0.000000001", "-0.000000001",
		"9223372036854775807.999999999", "-9223372036854775808", "-9223372036854775807.999999999")
}

func wrongTimes() []string {
	return []string{" ", "-", "--1", "+1", "00", "01", "-01", "01.5", "1.", ".5", "-.5", ".", "1.5.5", "1.0000000000", "1.-5", "1.5 ", " 1", "1\n", "1\x00", "\x00", "a", "1e3", "1,5",
		"9223372036854775808", "-9223372036854775809", "-9223372036854775808.1", "\xff", "1\xff"}
}

// rightNames have no nought; wrongNames have one, or are no right texts.
func rightNames() []string {
	return []string{"a", "a/b", "/", ".", "..", " ", "\n", "a\n", "\n\n", "=", "a=b", "9 path=a\n", "é", "\u20ac", "\U0001f600", "\ufffd", "\x01", "\x7f", strings.Repeat("ab/", 1000)}
}

func wrongNames() []string {
	return []string{"\x00", "a\x00", "\x00a", "a\x00b", "a\n\x00", "\xff", "a\xff", "\xc3", "\xe2\x82", "\xed\xa0\x80", "\xc0\x80", "\xf4\x90\x80\x80"}
}

// wrongTexts are no code points' bytes.
func wrongTexts() []string {
	return []string{"\xff", "\x80", "a\x80", "\xc3", "\xc3a", "\xc0\x80", "\xe2\x82", "\xed\xa0\x80", "\xf0\x9f\x98", "\xf4\x90\x80\x80", "a\xfeb"}
}

// wrongKeys are those of no right pair.
func wrongKeys() []string {
	return append(wrongTexts(), "", "=", "a=", "=a", "a=b", "path=", "\x00", "a\x00", "\x00a", "path\x00", "uid\x00")
}

// freeKeys are right and not known; freeValues are values of these.
func freeKeys() []string {
	return []string{"a", "x", " ", "\n", "a b", "a\nb", "PATH", "path ", " uid", "mtime\n", "comment", "atime", "é", "\U0001f600", "\ufffd", "1", "9", strings.Repeat("k", 300)}
}

func freeValues() []string {
	return []string{"", "\x00", "a\x00b", "=", "a=b", "==", "\n", "a\nb", "\n\n", "b\n5 x=", " ", "0", "-1", "01", "é", "\ufffd", strings.Repeat("v\n", 500)}
}

// rightPairs and wrongPairs are some, of all keys.
func rightPairs() []api.Pair {
	return slices.Concat(
		pairsOf(nameKeys(), append(rightNames(), "")), pairsOf(numberKeys(), append(rightNumbers(), "")), pairsOf(timeKeys(), append(rightTimes(), "")),
		pairsOf(freeKeys(), freeValues()))
}

func wrongPairs() []api.Pair {
	return slices.Concat(
		pairsOf(nameKeys(), wrongNames()), pairsOf(numberKeys(), wrongNumbers()), pairsOf(timeKeys(), wrongTimes()),
		pairsOf(wrongKeys(), []string{"", "a", "0", "\x00"}), pairsOf(freeKeys(), wrongTexts()))
}

func pairsOf(keys, values []string) []api.Pair {
	var all []api.Pair
	for _, key := range keys {
		for _, value := range values {
			all = append(all, pair(key, value))
		}
	}
	return all
}

// The forms that the chapters give to values.
var (
	numberForm = regexp.MustCompile(`\A(0|[1-9][0-9]*)\z`)
	timeForm   = regexp.MustCompile(`\A-?(0|[1-9][0-9]*)(\.[0-9]{1,9})?\z`)
)

// isRight is what Right promises, by the chapter's words.
func isRight(p api.Pair) bool {
	if p.Key == "" || !utf8.ValidString(p.Key) || strings.Contains(p.Key, "=") || strings.Contains(p.Key, "\x00") || !utf8.ValidString(p.Value) {
		return false
	}
	switch {
	case p.Value == "":
		return true
	case slices.Contains(nameKeys(), p.Key):
		return !strings.Contains(p.Value, "\x00")
	case slices.Contains(numberKeys(), p.Key):
		n, ok := new(big.Int).SetString(p.Value, 10)
		return numberForm.MatchString(p.Value) && ok && n.IsInt64()
	case slices.Contains(timeKeys(), p.Key):
		return isTime(p.Value)
	}
	return true
}

func isTime(s string) bool {
	if !timeForm.MatchString(s) {
		return false
	}
	value, _ := new(big.Rat).SetString(s)
	least := big.NewRat(-1<<63, 1)
	end := new(big.Rat).Neg(least)
	return value.Cmp(least) >= 0 && value.Cmp(end) < 0
}

// lengths are all numbers that tell how many bytes a record of so many other bytes has, in their order.
func lengths(rest int) []int {
	var all []int
	for digits := 1; digits <= 12; digits++ {
		if n := rest + digits; len(strconv.Itoa(n)) == digits {
			all = append(all, n)
		}
	}
	return all
}

// restOf are the bytes of a pair's record but the length.
func restOf(p api.Pair) string { return " " + p.Key + "=" + p.Value + "\n" }

// records are every record of p, that of the least length first.
func records(p api.Pair) []string {
	var all []string
	for _, n := range lengths(len(restOf(p))) {
		all = append(all, strconv.Itoa(n)+restOf(p))
	}
	return all
}

// parsed is what Parse promises: each record is looked for by trying every length that it could have.
func parsed(s string) ([]api.Pair, api.Code) {
	var l []api.Pair
	for s != "" {
		n := 1
		for n <= len(s) && !strings.HasPrefix(s, strconv.Itoa(n)+" ") {
			n++
		}
		if n > len(s) {
			return nil, api.Record
		}
		at := strings.Index(s[:n], "=")
		from := len(strconv.Itoa(n)) + 1
		if at < from || s[n-1] != '\n' || !isRight(pair(s[from:at], s[at+1:n-1])) {
			return nil, api.Record
		}
		l = append(l, pair(s[from:at], s[at+1:n-1]))
		s = s[n:]
	}
	return l, api.Fine
}

func TestRight(t *testing.T) {
	for _, p := range rightPairs() {
		if !Right(p) {
			t.Errorf("P7.1: %q is right", p)
		}
	}
	for _, p := range wrongPairs() {
		if Right(p) {
			t.Errorf("P7.1: %q is not right", p)
		}
	}
}

func TestRightIsAsTheChapterSays(t *testing.T) {
	keys := slices.Concat(knownKeys(), nearKeys(), wrongKeys(), freeKeys())
	values := slices.Concat(rightNames(), wrongNames(), rightNumbers(), wrongNumbers(), rightTimes(), wrongTimes(), freeValues(), wrongTexts())
	for _, p := range pairsOf(keys, values) {
		if got, want := Right(p), isRight(p); got != want {
			t.Errorf("P7.1: Right of %q: %v", p, got)
		}
	}
}

func TestEachByteInKeysAndValues(t *testing.T) {
	for c := range 256 {
		s := string([]byte{byte(c)})
		for _, p := range []api.Pair{pair(s, ""), pair("a"+s, "b"), pair(s+"a", "b"), pair("a"+s+"a", ""), pair("path"+s, "a"), pair("x", s), pair("x", "a"+s+"a"),
			pair("path", "a"+s), pair("gname", s+"a"), pair("uid", s), pair("size", "1"+s), pair("mtime", s), pair("mtime", "1"+s+"5"), pair("mtime", s+"1")} {
			if got, want := Right(p), isRight(p); got != want {
				t.Errorf("P7.1: Right of %q: %v", p, got)
			}
		}
	}
}

func TestKnown(t *testing.T) {
	for _, key := range []string{"path", "linkpath", "uname", "gname", "uid", "gid", "size", "mtime"} {
		if !Known(key) {
			t.Errorf("P7.1: %q is known", key)
		}
	}
	for _, key := range nearKeys() {
		if Known(key) {
			t.Errorf("P7.1: %q is not known", key)
		}
	}
}

func TestLen(t *testing.T) {
	// By how many bytes stand behind the length; at each change of digits the last with so many and the first with one more.
	for _, c := range []struct{ rest, want int }{
		{3, 4}, {4, 5}, {7, 8}, {8, 9}, {9, 11}, {10, 12}, {11, 13}, {96, 98}, {97, 99}, {98, 101}, {99, 102},
		{995, 998}, {996, 999}, {997, 1001}, {998, 1002}, {9994, 9998}, {9995, 9999}, {9996, 10001}, {9997, 10002},
		{99993, 99998}, {99994, 99999}, {99995, 100001}, {999993, 999999}, {999994, 1000001},
	} {
		for _, key := range []int{0, 1, c.rest - 3} {
			if key > c.rest-3 {
				continue
			}
			p := pair(strings.Repeat("k", key), strings.Repeat("v", c.rest-3-key))
			if n := Len(p); n != c.want {
				t.Errorf("P7.1: Len with %d bytes behind the length: %d; want %d", c.rest, n, c.want)
			}
		}
	}
	if n := Len(pair("path", "a")); n != 9 {
		t.Errorf("P7.1: Len of the example: %d", n)
	}
}

func TestLenOfAnyPair(t *testing.T) {
	for _, p := range append(rightPairs(), wrongPairs()...) {
		if n, want := Len(p), len(records(p)[0]); n != want {
			t.Errorf("P7.1: Len of %q: %d; want %d", p, n, want)
		}
	}
	value := strings.Repeat("\xff", 10100)
	for n := range len(value) {
		p := pair("", value[:n])
		if got, want := Len(p), lengths(n + 3)[0]; got != want {
			t.Fatalf("P7.1: Len with %d bytes in its value: %d; want %d", n, got, want)
		}
	}
}

func TestPrint(t *testing.T) {
	for _, c := range []struct {
		l    []api.Pair
		want string
	}{
		{nil, ""},
		{[]api.Pair{}, ""},
		{[]api.Pair{pair("path", "a")}, "9 path=a\n"},
		{[]api.Pair{pair("path", "ab")}, "11 path=ab\n"},
		{[]api.Pair{pair("a", "")}, "5 a=\n"},
		{[]api.Pair{pair("a", "b\x00=\n")}, "9 a=b\x00=\n\n"},
		{[]api.Pair{pair("mtime", "-0.50")}, "15 mtime=-0.50\n"},
		{[]api.Pair{pair("x", "1"), pair("x", ""), pair("x", "1"), pair("uid", "7")}, "6 x=1\n5 x=\n6 x=1\n8 uid=7\n"},
		{[]api.Pair{pair("size", "7"), pair("gid", "")}, "9 size=7\n7 gid=\n"},
		{[]api.Pair{pair("\u20ac", "é")}, "9 \u20ac=é\n"},
	} {
		if b, code := Print(c.l); string(b) != c.want || code != api.Fine {
			t.Errorf("P7.2: Print of %q: %q, %v; want %q", c.l, b, code, c.want)
		}
	}
	for _, p := range rightPairs() {
		if b, code := Print([]api.Pair{p}); string(b) != records(p)[0] || code != api.Fine {
			t.Errorf("P7.2: Print of %q: %q, %v", p, b, code)
		}
	}
}

func TestPrintOfWrongPairs(t *testing.T) {
	good := pair("path", "a")
	for _, p := range wrongPairs() {
		for _, l := range [][]api.Pair{{p}, {p, good}, {good, p}, {good, p, good}, {good, good, p}} {
			if b, code := Print(l); len(b) != 0 || code != api.Form {
				t.Errorf("P7.2: Print of %q: %q, %v; want form", l, b, code)
			}
		}
	}
}

func TestParse(t *testing.T) {
	for _, c := range []struct {
		s    string
		want []api.Pair
	}{
		{"", nil},
		{"9 path=a\n", []api.Pair{pair("path", "a")}},
		{"10 path=a\n", []api.Pair{pair("path", "a")}},
		{"9 path=a\n10 path=a\n9 path=b\n", []api.Pair{pair("path", "a"), pair("path", "a"), pair("path", "b")}},
		{"5 a=\n", []api.Pair{pair("a", "")}},
		{"5 a=\n5 a=\n", []api.Pair{pair("a", ""), pair("a", "")}},
		{"8 a=b=c\n", []api.Pair{pair("a", "b=c")}},
		{"6 a==\n", []api.Pair{pair("a", "=")}},
		{"7 a=\n\n\n", []api.Pair{pair("a", "\n\n")}},
		{"6 a=\x00\n", []api.Pair{pair("a", "\x00")}},
		{"6  =b\n", []api.Pair{pair(" ", "b")}},
		{"6 \n=\n\n", []api.Pair{pair("\n", "\n")}},
		{"12 a=6 b=c\n\n", []api.Pair{pair("a", "6 b=c\n")}},
		{"7 1 2=\n", []api.Pair{pair("1 2", "")}},
		{"8 uid=7\n9 mtime=\n", []api.Pair{pair("uid", "7"), pair("mtime", "")}},
		{"31 mtime=9223372036854775807.5\n", []api.Pair{pair("mtime", "9223372036854775807.5")}},
	} {
		if l, code := Parse([]byte(c.s)); !slices.Equal(l, c.want) || code != api.Fine {
			t.Errorf("P7.2: Parse of %q: %q, %v; want %q", c.s, l, code, c.want)
		}
	}
	if l, code := Parse(nil); len(l) != 0 || code != api.Fine {
		t.Errorf("P7.2: Parse of nil: %q, %v", l, code)
	}
}

func TestParseOfEveryLengthThatHolds(t *testing.T) {
	many := 0
	for rest := 4; rest <= 10100; rest++ {
		p := pair("k", strings.Repeat("v", rest-4))
		for _, s := range records(p) {
			if l, code := Parse([]byte(s)); !slices.Equal(l, []api.Pair{p}) || code != api.Fine {
				t.Fatalf("P7.2: Parse of a record of %d bytes: %v", len(s), code)
			}
		}
		if len(records(p)) > 1 {
			many++
		}
	}
	if many != 4 {
		t.Errorf("%d pairs have records of two lengths; want those of 10, 100, 1000, 10000 bytes", many)
	}
}

func TestParseOfNoRecords(t *testing.T) {
	for _, s := range []string{
		// Lengths: with a nought ahead, without digits, with others than digits.
		"0", "0 ", "0 a=b\n", "06 a=b\n", "07 a=b\n", "007 a=b\n", "008 a=b\n", "010 path=a\n", "011 path=a\n", "00 a=b\n", " a=b\n", "  a=b\n", "-6 a=b\n", "-7 a=b\n", "+6 a=b\n", "+7 a=b\n",
		"a=b\n", "x a=b\n", "6x a=b\n", "x6 a=b\n", "0x6 a=b\n", "6.0 a=b\n", "6\x00 a=b\n", "\x006 a=b\n", "6\n a=b\n", "\n6 a=b\n", "７ a=b\n", "1_0 path=a\n",
		// Greater or less than the record, or than any number.
		"1 a=b\n", "2 a=b\n", "3 a=b\n", "4 a=b\n", "5 a=b\n", "7 a=b\n", "8 a=b\n", "60 a=b\n", "8 path=a\n", "9 path=ab\n", "10 path=ab\n", "12 path=ab\n", "11 path=a\n",
		"2147483647 a=b\n", "4294967302 a=b\n", "9223372036854775807 a=b\n", "9223372036854775808 a=b\n", "18446744073709551615 a=b\n", "18446744073709551622 a=b\n",
		strings.Repeat("9", 100) + " a=b\n", strings.Repeat("6", 5000), "1" + strings.Repeat("0", 5000) + " a=b\n",
		// No blank, no =, no line feed at the end.
		"1", "5", "6", "12", "123456", "6a=b\n", "5a=b\n", "6\ta=b\n", "6=a=b\n", "2 ", "3 \n", "4 a\n", "5 ab\n", "6 a b\n", "6", "6 ", "6 a", "6 a=", "6 a=b", "6 a=bc", "6 a=b\r", "6 a=b\x00", "9 path=aa", "5 a=b",
		// Bytes behind the last record.
		"6 a=b\n\n", "6 a=b\n ", "6 a=b\n\x00", "6 a=b\n6", "6 a=b\n6 ", "6 a=b\n6 a=b", "6 a=b\n7 a=b\n", "6 a=b\nx", "6 a=b\n" + strings.Repeat("\x00", 506),
	} {
		if l, code := Parse([]byte(s)); len(l) != 0 || code != api.Record {
			t.Errorf("P7.2: Parse of %.40q: %q, %v; want record", s, l, code)
		}
	}
}

func TestParseOfWrongPairs(t *testing.T) {
	for _, p := range wrongPairs() {
		for _, s := range records(p) {
			// A = in the key parts the record elsewhere, into a pair that may be right.
			if _, code := parsed(s); code == api.Fine {
				continue
			}
			for _, all := range []string{s, s + "6 a=b\n", "6 a=b\n" + s, "5 a=\n" + s + "6 a=b\n"} {
				if l, code := Parse([]byte(all)); len(l) != 0 || code != api.Record {
					t.Errorf("P7.2: Parse of %q: %q, %v; want record", all, l, code)
				}
			}
		}
	}
}

func TestParseAndOneByteElse(t *testing.T) {
	for _, s := range []string{"9 path=a\n", "10 path=a\n", "8 uid=7\n5 a=\n", "12 mtime=-1\n", "6 a=b\n6 a=c\n"} {
		for at := range len(s) {
			heldParse(t, s[:at])
			heldParse(t, s[at:])
			heldParse(t, s[:at]+s[at+1:])
			for c := range 256 {
				other := string([]byte{byte(c)})
				heldParse(t, s[:at]+other+s[at:])
				heldParse(t, s[:at]+other+s[at+1:])
			}
		}
	}
}

func TestParseOfShortTexts(t *testing.T) {
	const some = "0159 =\na\x00\xff"
	var each func(s string, left int)
	each = func(s string, left int) {
		heldParse(t, s)
		if left == 0 {
			return
		}
		for at := range len(some) {
			each(s+some[at:at+1], left-1)
		}
	}
	each("", 5)
}

// heldParse holds Parse against the chapter's words, and what it answers against P7.3.
func heldParse(t *testing.T, s string) {
	t.Helper()
	l, code := Parse([]byte(s))
	if want, wantCode := parsed(s); !slices.Equal(l, want) || code != wantCode {
		t.Fatalf("P7.2: Parse of %q: %q, %v; want %q, %v", s, l, code, want, wantCode)
	}
	if code != api.Fine {
		return
	}
	b, code := Print(l)
	if code != api.Fine || len(b) > len(s) {
		t.Fatalf("P7.3: %q is parsed, and printed as %q, %v", s, b, code)
	}
	if again, code := Parse(b); !slices.Equal(again, l) || code != api.Fine {
		t.Fatalf("P7.3: %q is printed, and parsed as %q, %v", l, again, code)
	}
}

func TestPrintedIsParsed(t *testing.T) {
	dice := rand.New(rand.NewSource(7))
	right := rightPairs()
	for range 3000 {
		var l []api.Pair
		told := ""
		for range dice.Intn(8) {
			p := right[dice.Intn(len(right))]
			l = append(l, p)
			all := records(p)
			told += all[dice.Intn(len(all))]
		}
		b, code := Print(l)
		if code != api.Fine {
			t.Fatalf("P7.2: Print of %q: %v", l, code)
		}
		n := 0
		for _, p := range l {
			n += Len(p)
		}
		if len(b) != n {
			t.Errorf("P7.1, P7.2: %q is printed in %d bytes; want %d", l, len(b), n)
		}
		if got, code := Parse(b); !slices.Equal(got, l) || code != api.Fine {
			t.Errorf("P7.3: %q is printed, and parsed as %q, %v", l, got, code)
		}
		heldParse(t, told)
	}
}

func TestParseOfSpoiltRecords(t *testing.T) {
	dice := rand.New(rand.NewSource(8))
	right := append(rightPairs(), wrongPairs()...)
	for range 20000 {
		var b []byte
		for range 1 + dice.Intn(4) {
			all := records(right[dice.Intn(len(right))])
			b = append(b, all[dice.Intn(len(all))]...)
		}
		for range dice.Intn(3) {
			at := dice.Intn(len(b))
			b[at] = "0123456789 =\n\x00\xffa"[dice.Intn(16)]
		}
		heldParse(t, string(b[:len(b)-dice.Intn(2)]))
	}
}

func TestWhatIsHandedInStays(t *testing.T) {
	b := []byte("9 path=a\n8 uid=7\n5 x=\n")
	kept := bytes.Clone(b)
	l, _ := Parse(b)
	if !bytes.Equal(b, kept) {
		t.Errorf("R4: Parse changed %q to %q", kept, b)
	}
	clear(b)
	want := []api.Pair{pair("path", "a"), pair("uid", "7"), pair("x", "")}
	if !slices.Equal(l, want) {
		t.Errorf("R4: what was parsed became %q", l)
	}
	one, _ := Print(l)
	if !slices.Equal(l, want) {
		t.Errorf("R4: Print changed its list to %q", l)
	}
	clear(one)
	if two, _ := Print(l); !bytes.Equal(two, kept) {
		t.Errorf("R4: printed again: %q", two)
	}
}

func TestGreatRecords(t *testing.T) {
	var l []api.Pair
	for n := range 2000 {
		l = append(l, pair(fmt.Sprint("key", n), strings.Repeat("=\n ", n%50)))
	}
	l = append(l, pair("path", strings.Repeat("a", 1<<20)), pair("x", strings.Repeat("\x00", 1<<20)))
	b, code := Print(l)
	if code != api.Fine {
		t.Fatalf("P7.2: Print of many pairs: %v", code)
	}
	if got, code := Parse(b); !slices.Equal(got, l) || code != api.Fine {
		t.Errorf("P7.3: many pairs are parsed as %d, %v", len(got), code)
	}
	if got, code := Parse(b[:len(b)-1]); len(got) != 0 || code != api.Record {
		t.Errorf("P7.2: without the last byte: %d pairs, %v", len(got), code)
	}
}

func FuzzParse(f *testing.F) {
	f.Add("9 path=a\n10 path=a\n")
	f.Add("8 a=b\nc\n9 mtime=\n")
	f.Fuzz(func(t *testing.T, s string) {
		if len(s) < 10000 {
			heldParse(t, s)
		}
	})
}
