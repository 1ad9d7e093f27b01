package rep

import (
	"math"
	"math/rand"
	"reflect"
	"slices"
	"strconv"
	"strings"
	"testing"
	"unicode/utf8"

	"oakum/api"
	"oakum/item"
	"oakum/pax"
)

const (
	m8  = 8*8*8*8*8*8*8*8 - 1
	m12 = 8*8*8*8*8*8*8*8*8*8*8*8 - 1
	p56 = 256 * 256 * 256 * 256 * 256 * 256 * 256
)

var (
	dialects   = []int{api.V7, api.Ustar, api.Pax, api.Gnu}
	noDialects = []int{math.MinInt, math.MinInt32, -256, -4, -1, 0, 5, 6, 255, 256, 257, 260, math.MaxInt32, math.MaxInt}
	noFields   = []int{math.MinInt, math.MinInt32, -256, -14, -1, 0, 15, 16, 255, 256, 257, 270, math.MaxInt32, math.MaxInt}
	kinds      = []int{api.File, api.Link, api.Sym, api.Char, api.Block, api.Dir, api.Fifo}
)

// of is a text of n bytes without a /.
func of(n int) string { return strings.Repeat("n", n) }

// bad is a text of n bytes that isn't right.
func bad(n int) string { return of(n-1) + "\xff" }

func list(texts ...string) []api.Pair {
	l := []api.Pair{}
	for i := 0; i+1 < len(texts); i += 2 {
		l = append(l, api.Pair{Key: texts[i], Value: texts[i+1]})
	}
	return l
}

// head is a head of a kind that each dialect which has the kind can tell.
func head(kind int) api.Head {
	h := api.Head{Kind: kind, Name: "d/name", Mode: 0o644, UID: 1, GID: 2, Time: api.Time{Sec: 3}}
	switch kind {
	case api.File:
		h.Size = 4
	case api.Link, api.Sym:
		h.Link = "to"
	case api.Char, api.Block:
		h.Major, h.Minor = 5, 6
	}
	return h
}

// deep is a copy that doesn't lean on what is tested.
func deep(h api.Head) api.Head {
	if h.Extra != nil {
		h.Extra = append([]api.Pair{}, h.Extra...)
	}
	return h
}

// wantSplits: does s split, by chapter 10's words?
func wantSplits(s string) bool {
	if len(s) >= 1 && len(s) <= 100 {
		return true
	}
	for at, b := range []byte(s) {
		behind := len(s) - at - 1
		if b == '/' && at >= 1 && at <= 155 && behind >= 1 && behind <= 100 {
			return true
		}
	}
	return false
}

// wantFulls are the full names of a right head, by what chapter 9 says that full names tell.
func wantFulls(h api.Head) []string {
	if h.Kind != api.Dir {
		return []string{h.Name}
	}
	var fulls []string
	for _, s := range []string{h.Name, h.Name + "/"} {
		told := s
		if s != "/" && s[len(s)-1] == '/' {
			told = s[:len(s)-1]
		}
		if told == h.Name {
			fulls = append(fulls, s)
		}
	}
	return fulls
}

// wantFull is the full name of a right head, by the chapter's words.
func wantFull(d int, h api.Head) (string, bool) {
	fulls := wantFulls(h)
	for _, s := range fulls {
		can := false
		switch d {
		case api.V7:
			can = len(s) < 101 && (h.Kind != api.Dir || s[len(s)-1] == '/')
		case api.Ustar, api.Pax:
			can = wantSplits(s)
		case api.Gnu:
			can = len(s) < 65537
		}
		if can {
			return s, true
		}
	}
	if d == api.Pax && utf8.ValidString(h.Name) {
		return fulls[0], true
	}
	return "", false
}

// wantLen is how many bytes the records of all pairs have, by chapter 7's words.
func wantLen(l []api.Pair) int {
	all := 0
	for _, p := range l {
		rest := len(p.Key) + len(p.Value) + 3
		n := rest + 1
		for n != rest+len(strconv.Itoa(n)) {
			n++
		}
		all += n
	}
	return all
}

// wantRecords are the records of a right head, by the chapter's words.
func wantRecords(h api.Head) ([]api.Pair, bool) {
	for _, field := range []int{api.FieldGroup, api.FieldUser, api.FieldLink, api.FieldName} {
		if !wantCan(api.Pax, h, field) {
			return nil, false
		}
	}
	said := map[string]string{}
	say := func(field int, key, value string) {
		if !wantCan(api.Ustar, h, field) {
			said[key] = value
		}
	}
	say(api.FieldName, "path", wantFulls(h)[0])
	say(api.FieldLink, "linkpath", h.Link)
	say(api.FieldUID, "uid", strconv.FormatInt(h.UID, 10))
	say(api.FieldGID, "gid", strconv.FormatInt(h.GID, 10))
	say(api.FieldSize, "size", strconv.FormatInt(h.Size, 10))
	say(api.FieldTime, "mtime", wantTime(h.Time))
	say(api.FieldUser, "uname", h.User)
	say(api.FieldGroup, "gname", h.Group)
	for _, p := range h.Extra {
		said[p.Key] = p.Value
	}
	var keys []string
	for key := range said {
		keys = append(keys, key)
	}
	slices.Sort(keys)
	var l []api.Pair
	for _, key := range keys {
		l = append(l, api.Pair{Key: key, Value: said[key]})
	}
	return l, true
}

// wantTime is the shortest text of a time that lies at most so far from 0 that nothing goes round.
func wantTime(t api.Time) string {
	if t.Nano == 0 {
		return strconv.FormatInt(t.Sec, 10)
	}
	sign, sec, nano := "", t.Sec, t.Nano
	if sec < 0 {
		sign, sec, nano = "-", -(sec + 1), 1000000000-nano
	}
	digits := strconv.FormatInt(nano, 10)
	digits = strings.Repeat("0", 9-len(digits)) + digits
	return sign + strconv.FormatInt(sec, 10) + "." + strings.TrimRight(digits, "0")
}

// wantCan: can the field of a right head be told, by the chapter's table?
func wantCan(d int, h api.Head, field int) bool {
	old, gnu := d == api.V7 || d == api.Ustar, d == api.Gnu
	number := func(n, most int64, all bool) bool { return all || gnu && n < p56 || n <= most }
	name := func(s string, most int) bool {
		return len(s) <= most || d == api.Pax && utf8.ValidString(s)
	}
	user := 32
	if d == api.V7 {
		user = 0
	}
	switch field {
	case api.FieldKind:
		return d != api.V7 || slices.Contains([]int{api.File, api.Link, api.Sym, api.Dir}, h.Kind)
	case api.FieldName:
		_, ok := wantFull(d, h)
		return ok
	case api.FieldLink:
		return gnu || name(h.Link, 100)
	case api.FieldMode:
		return number(h.Mode, m8, false)
	case api.FieldUID:
		return number(h.UID, m8, d == api.Pax)
	case api.FieldGID:
		return number(h.GID, m8, d == api.Pax)
	case api.FieldSize:
		return number(h.Size, m12, !old)
	case api.FieldTime:
		return d == api.Pax || h.Time.Nano == 0 && (gnu || h.Time.Sec >= 0 && h.Time.Sec <= m12)
	case api.FieldUser:
		return name(h.User, user)
	case api.FieldGroup:
		return name(h.Group, user)
	case api.FieldMajor:
		return number(h.Major, m8, false)
	case api.FieldMinor:
		return number(h.Minor, m8, false)
	case api.FieldExtra:
		return d == api.Pax || len(h.Extra) == 0
	}
	l, ok := wantRecords(h)
	return d != api.Pax || !ok || wantLen(l) <= 65536
}

// short is a head's beginning, for what tests tell.
func short(h api.Head) string {
	cut := func(s string) string { return strconv.Quote(s[:min(len(s), 30)]) + ":" + strconv.Itoa(len(s)) }
	return strconv.Itoa(h.Kind) + " " + cut(h.Name) + " " + cut(h.Link) + " " + cut(h.User) + " " + cut(h.Group)
}

// held asks all calls about a right head, and holds what they answer against the chapter's words.
func held(t *testing.T, h api.Head) {
	t.Helper()
	before := deep(h)
	for _, d := range dialects {
		first := 0
		for field := api.FieldRecords; field >= api.FieldKind; field-- {
			want := wantCan(d, h, field)
			if !want {
				first = field
			}
			if got, code := Can(d, h, field); got != want || code != api.Fine {
				t.Fatalf("P11.1: Can(%d, %s, %d): %v, %v; want %v", d, short(h), field, got, code, want)
			}
		}
		if got, code := First(d, h); got != first || code != api.Fine {
			t.Fatalf("P11.1: First(%d, %s): %d, %v; want %d", d, short(h), got, code, first)
		}
		want, code := "", api.Field
		if s, ok := wantFull(d, h); ok {
			want, code = s, api.Fine
		}
		if got, c := Full(d, h); got != want || c != code {
			t.Fatalf("P11.2: Full(%d, %s): %.40q, %v; want %.40q, %v", d, short(h), got, c, want, code)
		}
	}
	recordsHeld(t, h)
	followsHeld(t, h)
	if !reflect.DeepEqual(h, before) {
		t.Fatalf("R4: %s is changed", short(h))
	}
}

// recordsHeld holds a right head's records against the chapter's words.
func recordsHeld(t *testing.T, h api.Head) {
	t.Helper()
	want, ok := wantRecords(h)
	got, code := Records(h)
	if !slices.Equal(got, want) || (code == api.Fine) != ok || !ok && code != api.Field {
		t.Fatalf("P11.2: Records(%s): %.200q, %v; want %.200q, %v", short(h), got, code, want, ok)
	}
	for i, p := range got {
		if !pax.Right(p) || p.Value == "" || i > 0 && got[i-1].Key >= p.Key {
			t.Fatalf("P11.2: Records(%s): %.200q are no overlay of right pairs", short(h), got)
		}
	}
}

// followsHeld asks P11.3 of a right head, of all of it and field by field.
func followsHeld(t *testing.T, h api.Head) {
	t.Helper()
	for _, c := range []struct {
		low, high int
		kinds     []int
	}{
		{api.Ustar, api.Pax, kinds},
		{api.V7, api.Ustar, []int{api.File, api.Link, api.Sym}},
		{api.V7, api.Gnu, []int{api.File, api.Link, api.Sym}},
	} {
		if !slices.Contains(c.kinds, h.Kind) {
			continue
		}
		low, _ := First(c.low, h)
		high, _ := First(c.high, h)
		if low == 0 && high != 0 {
			t.Fatalf("P11.3: %s can be told in %d, but its field %d not in %d", short(h), c.low, high, c.high)
		}
		// Records are of all fields together, so that they are left out here.
		for field := api.FieldKind; field <= api.FieldExtra; field++ {
			low, _ := Can(c.low, h, field)
			high, _ := Can(c.high, h, field)
			if low && !high {
				t.Fatalf("P11.3: field %d of %s can be told in %d, but not in %d", field, short(h), c.low, c.high)
			}
		}
	}
}

func TestDialect(t *testing.T) {
	for d := -1000; d <= 1000; d++ {
		if got := Dialect(d); got != (d >= 1 && d <= 4) {
			t.Errorf("P11.1: Dialect(%d): %v", d, got)
		}
	}
	for _, d := range noDialects {
		if Dialect(d) {
			t.Errorf("P11.1: Dialect(%d)", d)
		}
	}
}

// canRow asks whether V7, Ustar, Pax and Gnu can tell a field, of which row has a 0 or a 1 each.
func canRow(t *testing.T, what string, h api.Head, field int, row string) {
	t.Helper()
	if wrong := item.Wrong(h); wrong != 0 {
		t.Fatalf("%s: the head's field %d isn't right", what, wrong)
	}
	for i, d := range dialects {
		if got, code := Can(d, h, field); got != (row[i] == '1') || code != api.Fine {
			t.Errorf("P11.1: %s: Can(%d, h, %d): %v, %v; want %c", what, d, field, got, code, row[i])
		}
	}
	held(t, h)
}

func TestKinds(t *testing.T) {
	for _, kind := range kinds {
		row := "1111"
		if kind == api.Char || kind == api.Block || kind == api.Fifo {
			row = "0111"
		}
		canRow(t, "kind "+strconv.Itoa(kind), head(kind), api.FieldKind, row)
		for field := api.FieldName; field <= api.FieldRecords; field++ {
			canRow(t, "kind "+strconv.Itoa(kind), head(kind), field, "1111")
		}
	}
	if f, code := First(api.V7, head(api.Fifo)); f != 1 || code != api.Fine { // the chapter's example
		t.Errorf("P11.1: First of a Fifo in V7: %d, %v", f, code)
	}
}

func TestNames(t *testing.T) {
	for _, c := range []struct{ name, row string }{
		{"n", "1111"},
		{"\xff", "1111"},
		{of(99), "1111"},
		{of(100), "1111"},
		{of(101), "0011"},
		{bad(99), "1111"},
		{bad(100), "1111"},
		{bad(101), "0001"},
		{"\xff" + of(100), "0001"},
		{of(50) + "\xc3" + of(50), "0001"},
		{of(99) + "\u00e9", "0011"},
		{of(98) + "\u00e9", "1111"},
		{of(99) + "\xc3", "1111"},
		{of(101) + "\xc3", "0001"},
		{of(101) + "\xed\xa0\x80", "0001"},
		{of(101) + "\xef\xbf\xbd", "0011"},
		{"/" + of(99), "1111"},
		{"/" + of(100), "0011"},
		{"n/" + of(98), "1111"},
		{"n/" + of(99), "0111"},
		{"n/" + of(100), "0111"},
		{"n/" + of(101), "0011"},
		{"n/" + bad(100), "0111"},
		{"n/" + bad(101), "0001"},
		{of(155) + "/" + of(100), "0111"},
		{of(156) + "/" + of(99), "0011"},
		{of(155) + "/" + of(101), "0011"},
		{bad(155) + "/" + of(100), "0111"},
		{bad(156) + "/" + of(99), "0001"},
		{of(65535), "0011"},
		{of(65536), "0011"},
		{bad(65535), "0001"},
		{bad(65536), "0001"},
	} {
		for _, kind := range kinds {
			if kind == api.Dir {
				continue
			}
			h := head(kind)
			h.Name = c.name
			canRow(t, "a name of "+strconv.Itoa(len(c.name)), h, api.FieldName, c.row)
		}
	}
}

// dirs are names of Dirs, with what can be told of them and the full names by which it is.
func dirs() []struct{ name, row, v7, ustar, pax, gnu string } {
	n, x := of, bad
	return []struct{ name, row, v7, ustar, pax, gnu string }{
		{"a", "1111", "a/", "a", "a", "a"},
		{"a/", "1111", "a//", "a//", "a//", "a//"},
		{"a//", "1111", "a///", "a///", "a///", "a///"},
		{"/", "1111", "/", "/", "/", "/"},
		{"//", "1111", "///", "///", "///", "///"},
		{"a/b", "1111", "a/b/", "a/b", "a/b", "a/b"},
		{n(98), "1111", n(98) + "/", n(98), n(98), n(98)},
		{n(99), "1111", n(99) + "/", n(99), n(99), n(99)},
		{n(100), "0111", "", n(100), n(100), n(100)}, // alone it fits
		{n(101), "0011", "", "", n(101), n(101)},
		{x(99), "1111", x(99) + "/", x(99), x(99), x(99)},
		{x(100), "0111", "", x(100), x(100), x(100)},
		{x(101), "0001", "", "", "", x(101)},
		// With a / at the end there is only the full name with one more.
		{n(98) + "/", "1111", n(98) + "//", n(98) + "//", n(98) + "//", n(98) + "//"},
		{n(99) + "/", "0111", "", n(99) + "//", n(99) + "//", n(99) + "//"},
		{n(100) + "/", "0111", "", n(100) + "//", n(100) + "//", n(100) + "//"},
		{n(155) + "/", "0111", "", n(155) + "//", n(155) + "//", n(155) + "//"},
		{n(156) + "/", "0011", "", "", n(156) + "//", n(156) + "//"},
		{x(155) + "/", "0111", "", x(155) + "//", x(155) + "//", x(155) + "//"},
		{x(156) + "/", "0001", "", "", "", x(156) + "//"},
		// Splits only with the / behind, only without, and neither way.
		{"p/" + n(98) + "/", "0111", "", "p/" + n(98) + "//", "p/" + n(98) + "//", "p/" + n(98) + "//"},
		{"p/" + n(99), "0111", "", "p/" + n(99), "p/" + n(99), "p/" + n(99)},
		{"p/" + n(100), "0111", "", "p/" + n(100), "p/" + n(100), "p/" + n(100)},
		{"p/" + n(101), "0011", "", "", "p/" + n(101), "p/" + n(101)},
		{"p/" + x(100), "0111", "", "p/" + x(100), "p/" + x(100), "p/" + x(100)},
		{"p/" + x(101), "0001", "", "", "", "p/" + x(101)},
		{n(60) + "/" + n(98) + "/", "0111", "", n(60) + "/" + n(98) + "//", n(60) + "/" + n(98) + "//", n(60) + "/" + n(98) + "//"},
		{n(60) + "/" + n(99) + "/", "0011", "", "", n(60) + "/" + n(99) + "//", n(60) + "/" + n(99) + "//"},
		{n(60) + "/" + x(99) + "/", "0001", "", "", "", n(60) + "/" + x(99) + "//"},
		{n(155) + "/" + n(100), "0111", "", n(155) + "/" + n(100), n(155) + "/" + n(100), n(155) + "/" + n(100)},
		{n(155) + "/" + n(99) + "/", "0011", "", "", n(155) + "/" + n(99) + "//", n(155) + "/" + n(99) + "//"},
		{n(155) + "/" + n(98) + "/", "0111", "", n(155) + "/" + n(98) + "//", n(155) + "/" + n(98) + "//", n(155) + "/" + n(98) + "//"},
		// Full names of 65535, 65536 and 65537 bytes.
		{n(65535), "0011", "", "", n(65535), n(65535)},
		{n(65536), "0011", "", "", n(65536), n(65536)},
		{x(65535), "0001", "", "", "", x(65535)},
		{x(65536), "0001", "", "", "", x(65536)},
		{n(65533) + "/", "0011", "", "", n(65533) + "//", n(65533) + "//"},
		{n(65534) + "/", "0011", "", "", n(65534) + "//", n(65534) + "//"},
		{n(65535) + "/", "0010", "", "", n(65535) + "//", ""},
		{x(65534) + "/", "0001", "", "", "", x(65534) + "//"},
		{x(65535) + "/", "0000", "", "", "", ""},
	}
}

func TestDirs(t *testing.T) {
	for _, c := range dirs() {
		h := head(api.Dir)
		h.Name = c.name
		canRow(t, "a Dir's name of "+strconv.Itoa(len(c.name)), h, api.FieldName, c.row)
		for i, want := range []string{c.v7, c.ustar, c.pax, c.gnu} {
			code := api.Fine
			if want == "" {
				code = api.Field
			}
			if got, e := Full(i+1, h); got != want || e != code {
				t.Errorf("P11.2: Full(%d, a Dir of %.10q, %d bytes): %.10q, %d bytes, %v; want %.10q, %d bytes, %v", i+1, c.name, len(c.name), got, len(got), e, want, len(want), code)
			}
		}
	}
}

func TestFull(t *testing.T) {
	for _, c := range []struct{ name, row string }{
		{"a", "1111"},
		{"/", "1111"},
		{"a/", "1111"},
		{of(100), "1111"},
		{of(101), "0011"},
		{bad(101), "0001"},
		{"n/" + of(100), "0111"},
		{"n/" + bad(101), "0001"},
		{of(65536), "0011"},
		{of(65535) + "/", "0011"},
		{bad(65535) + "/", "0001"},
	} {
		for _, kind := range kinds {
			h := head(kind)
			h.Name = c.name
			if kind == api.Dir || item.Wrong(h) != 0 {
				continue
			}
			for i, d := range dialects {
				want, code := c.name, api.Fine
				if c.row[i] == '0' {
					want, code = "", api.Field
				}
				if got, e := Full(d, h); got != want || e != code {
					t.Errorf("P11.2: Full(%d, kind %d, %.10q, %d bytes): %.10q, %v; want %v", d, kind, c.name, len(c.name), got, e, code)
				}
			}
			held(t, h)
		}
	}
}

// TestFullAlone asks for the full name of heads of which other fields can't be told.
func TestFullAlone(t *testing.T) {
	h := head(api.Char)
	h.Mode, h.Major, h.Minor, h.UID, h.Time.Nano = math.MaxInt64, math.MaxInt64, math.MaxInt64, math.MaxInt64, 1
	h.User, h.Group, h.Extra = bad(33), bad(33), list("k", of(70000))
	for _, d := range dialects {
		if got, code := Full(d, h); got != "d/name" || code != api.Fine {
			t.Errorf("P11.2: Full(%d): %q, %v", d, got, code)
		}
	}
	held(t, h)
}

func TestLinks(t *testing.T) {
	for _, c := range []struct{ link, row string }{
		{"n", "1111"},
		{"/", "1111"},
		{"n/", "1111"},
		{"\xff", "1111"},
		{of(99), "1111"},
		{of(100), "1111"},
		{of(101), "0011"},
		{bad(99), "1111"},
		{bad(100), "1111"},
		{bad(101), "0001"},
		{of(99) + "/", "1111"},
		{of(100) + "/", "0011"},
		{"n/" + of(100), "0011"}, // a Link isn't split
		{"n/" + bad(100), "0001"},
		{of(65523), "0011"},
		{of(65536), "0011"},
		{bad(65536), "0001"},
	} {
		for _, kind := range []int{api.Link, api.Sym} {
			h := head(kind)
			h.Link = c.link
			canRow(t, "a link of "+strconv.Itoa(len(c.link)), h, api.FieldLink, c.row)
		}
	}
}

func TestUsers(t *testing.T) {
	for _, c := range []struct{ user, row string }{
		{"", "1111"},
		{"n", "0111"},
		{"\xff", "0111"},
		{of(31), "0111"},
		{of(32), "0111"},
		{of(33), "0010"},
		{bad(31), "0111"},
		{bad(32), "0111"},
		{bad(33), "0000"},
		{of(31) + "\u00e9", "0010"},
		{of(30) + "\u00e9", "0111"},
		{of(32) + "\xc3", "0000"},
		{of(65536), "0010"},
		{bad(65536), "0000"},
	} {
		for _, kind := range kinds {
			h := head(kind)
			h.User = c.user
			canRow(t, "a user of "+strconv.Itoa(len(c.user)), h, api.FieldUser, c.row)
			canRow(t, "no group", h, api.FieldGroup, "1111")
			h.User, h.Group = "", c.user
			canRow(t, "a group of "+strconv.Itoa(len(c.user)), h, api.FieldGroup, c.row)
			canRow(t, "no user", h, api.FieldUser, "1111")
		}
	}
}

func TestNumbers(t *testing.T) {
	for _, c := range []struct {
		n                  int64
		mode, owner, bytes string
	}{
		{0, "1111", "1111", "1111"},
		{1, "1111", "1111", "1111"},
		{1<<21 - 1, "1111", "1111", "1111"},
		{1 << 21, "1111", "1111", "1111"},
		{1<<24 - 2, "1111", "1111", "1111"},
		{1<<24 - 1, "1111", "1111", "1111"},
		{1 << 24, "0001", "0011", "1111"},
		{1<<32 + 1, "0001", "0011", "1111"},
		{1<<33 - 1, "0001", "0011", "1111"},
		{1 << 33, "0001", "0011", "1111"},
		{1<<36 - 2, "0001", "0011", "1111"},
		{1<<36 - 1, "0001", "0011", "1111"},
		{1 << 36, "0001", "0011", "0011"},
		{1<<55 + 1, "0001", "0011", "0011"},
		{1<<56 - 2, "0001", "0011", "0011"},
		{1<<56 - 1, "0001", "0011", "0011"},
		{1 << 56, "0000", "0010", "0011"},
		{1<<56 + 1, "0000", "0010", "0011"},
		{math.MaxInt64 - 1, "0000", "0010", "0011"},
		{math.MaxInt64, "0000", "0010", "0011"},
	} {
		what := "the number " + strconv.FormatInt(c.n, 10)
		for _, kind := range kinds {
			h := head(kind)
			h.Mode = c.n
			canRow(t, what, h, api.FieldMode, c.mode)
			h = head(kind)
			h.UID = c.n
			canRow(t, what, h, api.FieldUID, c.owner)
			canRow(t, what, h, api.FieldGID, "1111")
			h = head(kind)
			h.GID = c.n
			canRow(t, what, h, api.FieldGID, c.owner)
			canRow(t, what, h, api.FieldUID, "1111")
		}
		h := head(api.File)
		h.Size = c.n
		canRow(t, what, h, api.FieldSize, c.bytes)
		for _, kind := range []int{api.Char, api.Block} {
			h := head(kind)
			h.Major = c.n
			canRow(t, what, h, api.FieldMajor, c.mode)
			canRow(t, what, h, api.FieldMinor, "1111")
			h = head(kind)
			h.Minor = c.n
			canRow(t, what, h, api.FieldMinor, c.mode)
			canRow(t, what, h, api.FieldMajor, "1111")
		}
	}
}

func TestTimes(t *testing.T) {
	for _, c := range []struct {
		sec   int64
		whole string
		text  string // of the time, and of half a second more
		half  string
	}{
		{math.MinInt64, "0011", "-9223372036854775808", "-9223372036854775807.5"},
		{-1 << 36, "0011", "-68719476736", "-68719476735.5"},
		{-2, "0011", "-2", "-1.5"},
		{-1, "0011", "-1", "-0.5"},
		{0, "1111", "", "0.5"},
		{1, "1111", "", "1.5"},
		{m8 + 1, "1111", "", "16777216.5"},
		{1<<33 - 1, "1111", "", "8589934591.5"},
		{1 << 33, "1111", "", "8589934592.5"},
		{m12 - 1, "1111", "", "68719476734.5"},
		{m12, "1111", "", "68719476735.5"},
		{m12 + 1, "0011", "68719476736", "68719476736.5"},
		{p56, "0011", "72057594037927936", "72057594037927936.5"},
		{math.MaxInt64, "0011", "9223372036854775807", "9223372036854775807.5"},
	} {
		for _, kind := range kinds {
			h := head(kind)
			h.Time = api.Time{Sec: c.sec}
			canRow(t, "second "+strconv.FormatInt(c.sec, 10), h, api.FieldTime, c.whole)
			want := list()
			if c.text != "" {
				want = list("mtime", c.text)
			}
			if got, code := Records(h); !slices.Equal(got, want) || code != api.Fine {
				t.Errorf("P11.2: Records at second %d: %q, %v", c.sec, got, code)
			}
			h.Time.Nano = 500000000
			canRow(t, "half a second behind "+strconv.FormatInt(c.sec, 10), h, api.FieldTime, "0010")
			if got, code := Records(h); !slices.Equal(got, list("mtime", c.half)) || code != api.Fine {
				t.Errorf("P11.2: Records half a second behind %d: %q, %v", c.sec, got, code)
			}
		}
		for _, nano := range []int64{1, 999999999} {
			h := head(api.File)
			h.Time = api.Time{Sec: c.sec, Nano: nano}
			canRow(t, "billionths", h, api.FieldTime, "0010")
		}
	}
}

func TestExtra(t *testing.T) {
	for _, c := range []struct {
		extra []api.Pair
		row   string
	}{
		{nil, "1111"},
		{list(), "1111"},
		{list("k", "v"), "0010"},
		{list("comment", "c", "k", "v", "vendor.key", "\x00"), "0010"},
		{list("k", of(70000)), "0010"}, // too long for records, but that is their field
	} {
		for _, kind := range kinds {
			h := head(kind)
			h.Extra = c.extra
			canRow(t, strconv.Itoa(len(c.extra))+" pairs", h, api.FieldExtra, c.row)
		}
	}
}

// filled is h with a pair more, such that all its records have n bytes.
func filled(t *testing.T, h api.Head, n int) api.Head {
	t.Helper()
	l, ok := wantRecords(h)
	h.Extra = append(deep(h).Extra, api.Pair{Key: "zz", Value: of(max(1, n-wantLen(l)-10))})
	if l, ok = wantRecords(h); !ok || wantLen(l) != n {
		t.Fatalf("the records have %d bytes and not %d", wantLen(l), n)
	}
	return h
}

func TestRecordsLength(t *testing.T) {
	plain := head(api.File)
	paired := head(api.Fifo)
	paired.Extra = list("a", of(10000), "b", of(999), "c", "\u00e9")
	rich := head(api.Sym)
	rich.Name, rich.Link, rich.User, rich.Group = of(5000), of(4000), of(3000), of(2000)
	rich.UID, rich.GID, rich.Time.Nano = math.MaxInt64, m8+1, 1
	for _, base := range []api.Head{plain, paired, rich} {
		for _, c := range []struct {
			n   int
			row string
		}{
			{40000, "1111"}, {65535, "1111"}, {65536, "1111"}, {65537, "1101"}, {65538, "1101"}, {80000, "1101"},
		} {
			h := filled(t, base, c.n)
			canRow(t, "records of "+strconv.Itoa(c.n), h, api.FieldRecords, c.row)
			want := 0
			if c.n > 65536 {
				want = api.FieldRecords
			}
			if got, code := First(api.Pax, h); got != want || code != api.Fine {
				t.Errorf("P11.1: First in Pax, with records of %d: %d, %v", c.n, got, code)
			}
			// They are told also where they have too many bytes: only Name, Link, User and Group are asked.
			if l, code := Records(h); code != api.Fine || wantLen(l) != c.n {
				t.Errorf("P11.2: Records of %d bytes: %d, %v", c.n, wantLen(l), code)
			}
		}
	}
}

// TestOneRecordsLength fills records by a single field.
func TestOneRecordsLength(t *testing.T) {
	for what, turn := range map[string]func(h *api.Head, n int){
		"path":     func(h *api.Head, n int) { h.Name = of(n - 12) },
		"linkpath": func(h *api.Head, n int) { h.Link = of(n - 16) },
		"uname":    func(h *api.Head, n int) { h.User = of(n - 13) },
		"gname":    func(h *api.Head, n int) { h.Group = of(n - 13) },
	} {
		for n, row := range map[int]string{65535: "1111", 65536: "1111", 65537: "1101"} {
			h := head(api.Link)
			turn(&h, n)
			l, code := Records(h)
			if code != api.Fine || len(l) != 1 || l[0].Key != what || wantLen(l) != n {
				t.Errorf("P11.2: Records of a long %s: %d, of %d bytes, %v", what, len(l), wantLen(l), code)
			}
			canRow(t, what+", records of "+strconv.Itoa(n), h, api.FieldRecords, row)
		}
	}
	// The / that is one more in a Dir's full name counts in its record.
	for n, row := range map[int]string{65535: "1111", 65536: "1111", 65537: "1101"} {
		h := head(api.Dir)
		h.Name = of(n-14) + "/"
		if l, _ := Records(h); !slices.Equal(l, list("path", h.Name+"/")) || wantLen(l) != n {
			t.Errorf("P11.2: Records of a long Dir: %d of %d bytes", len(l), wantLen(l))
		}
		canRow(t, "a Dir's records of "+strconv.Itoa(n), h, api.FieldRecords, row)
	}
}

func TestRecords(t *testing.T) {
	all := head(api.Link)
	all.Name, all.Link, all.User, all.Group = of(101), of(102), of(33), of(34)
	all.UID, all.GID, all.Time = m8+1, p56, api.Time{Sec: -1, Nano: 500000000}
	all.Extra = list("a", "1", "gie", "2", "l", "3", "mtimf", "4", "pat", "5", "s", "6", "uie", "7", "z", "8")
	dir := head(api.Dir)
	dir.Name = of(156) + "/"
	short := head(api.Dir)
	short.Name = of(101)
	large := head(api.File)
	large.Size = 1 << 36
	edge := head(api.Sym)
	edge.Name, edge.Link, edge.User, edge.Group = bad(100), bad(100), bad(32), bad(32)
	edge.UID, edge.GID, edge.Time.Sec = m8, m8, m12
	device := head(api.Char)
	device.Mode, device.Major, device.Minor = math.MaxInt64, math.MaxInt64, math.MaxInt64
	pairs := head(api.Fifo)
	pairs.Extra = list("A", "1", "Path", "2", "path ", "3", "\u00e9", "4")
	for _, c := range []struct {
		what string
		h    api.Head
		want []api.Pair
	}{
		{"nothing", head(api.File), nil},
		{"fields and pairs in the order of the keys", all, list("a", "1", "gid", "72057594037927936", "gie", "2", "gname", of(34), "l", "3",
			"linkpath", of(102), "mtime", "-0.5", "mtimf", "4", "pat", "5", "path", of(101), "s", "6", "uid", "16777216", "uie", "7", "uname", of(33), "z", "8")},
		{"a Dir with one full name", dir, list("path", of(156)+"//")},
		{"a Dir with two", short, list("path", of(101))},
		{"a Size", large, list("size", "68719476736")},
		{"all that a header just holds", edge, nil},
		{"what no record tells", device, nil},
		{"pairs alone", pairs, list("A", "1", "Path", "2", "path ", "3", "\u00e9", "4")},
	} {
		if got, code := Records(c.h); !slices.Equal(got, c.want) || code != api.Fine {
			t.Errorf("P11.2: Records: %s: %.300q, %v", c.what, got, code)
		}
		held(t, c.h)
	}
}

// untold are heads of which a text can't be told in Pax.
func untold() map[int]api.Head {
	name, link, user, group := head(api.Link), head(api.Sym), head(api.File), head(api.Dir)
	name.Name = bad(101)
	link.Link = bad(101)
	user.User = bad(33)
	group.Group = bad(33)
	return map[int]api.Head{api.FieldName: name, api.FieldLink: link, api.FieldUser: user, api.FieldGroup: group}
}

func TestRecordsThatArent(t *testing.T) {
	for field, h := range untold() {
		for _, extra := range [][]api.Pair{nil, list("k", "v"), list("k", of(70000))} {
			h.Extra = extra
			if l, code := Records(h); len(l) != 0 || code != api.Field {
				t.Errorf("P11.2: Records with field %d untold: %d, %v", field, len(l), code)
			}
			// There are none that could be too long.
			if ok, code := Can(api.Pax, h, api.FieldRecords); !ok || code != api.Fine {
				t.Errorf("P11.1: Can tell records with field %d untold: %v, %v", field, ok, code)
			}
			if f, code := First(api.Pax, h); f != field || code != api.Fine {
				t.Errorf("P11.1: First with field %d untold: %d, %v", field, f, code)
			}
			held(t, h)
		}
	}
	// Other fields that Pax can't tell are no reason.
	h := head(api.Block)
	h.Mode, h.Major, h.Minor, h.UID = m8+1, m8+1, m8+1, m8+1
	if l, code := Records(h); !slices.Equal(l, list("uid", "16777216")) || code != api.Fine {
		t.Errorf("P11.2: Records beside a Mode that can't be told: %q, %v", l, code)
	}
}

// turns make each one field such that some dialects can't tell it.
func turns() map[int]func(h *api.Head) {
	return map[int]func(h *api.Head){
		api.FieldName:  func(h *api.Head) { h.Name = bad(300) },
		api.FieldLink:  func(h *api.Head) { h.Kind, h.Link, h.Major, h.Minor = api.Sym, bad(300), 0, 0 },
		api.FieldMode:  func(h *api.Head) { h.Mode = p56 },
		api.FieldUID:   func(h *api.Head) { h.UID = p56 },
		api.FieldGID:   func(h *api.Head) { h.GID = p56 },
		api.FieldTime:  func(h *api.Head) { h.Time = api.Time{Sec: -1, Nano: 1} },
		api.FieldUser:  func(h *api.Head) { h.User = bad(33) },
		api.FieldGroup: func(h *api.Head) { h.Group = bad(33) },
		api.FieldMajor: func(h *api.Head) { h.Kind, h.Link, h.Major = api.Block, "", p56 },
		api.FieldMinor: func(h *api.Head) { h.Kind, h.Link, h.Minor = api.Block, "", p56 },
		api.FieldExtra: func(h *api.Head) { h.Extra = list("k", of(70000)) },
	}
}

// TestFirstOfTwo makes two fields, of all pairs of them, such that they can't be told.
func TestFirstOfTwo(t *testing.T) {
	all := turns()
	for _, a := range all {
		for _, b := range all {
			h := head(api.Dir)
			a(&h)
			b(&h)
			if item.Wrong(h) != 0 {
				t.Fatalf("%s isn't right", short(h))
			}
			held(t, h)
		}
	}
	h := head(api.Dir)
	all[api.FieldUser](&h)
	all[api.FieldGroup](&h)
	all[api.FieldExtra](&h)
	for d, want := range map[int]int{api.V7: 9, api.Ustar: 9, api.Pax: 9, api.Gnu: 9} {
		if f, code := First(d, h); f != want || code != api.Fine {
			t.Errorf("P11.1: First(%d): %d, %v; want %d", d, f, code, want)
		}
	}
	h.User, h.Group = "", ""
	for d, want := range map[int]int{api.V7: 13, api.Ustar: 13, api.Pax: 14, api.Gnu: 13} {
		if f, code := First(d, h); f != want || code != api.Fine {
			t.Errorf("P11.1: First(%d): %d, %v; want %d", d, f, code, want)
		}
	}
}

// wrongs are heads that aren't right, each for one field.
func wrongs() map[string]api.Head {
	turned := func(kind int, turn func(h *api.Head)) api.Head {
		h := head(kind)
		turn(&h)
		return h
	}
	return map[string]api.Head{
		"empty":               {},
		"kind alone":          {Kind: api.File},
		"kind 8":              turned(api.File, func(h *api.Head) { h.Kind = 8 }),
		"kind -1":             turned(api.Fifo, func(h *api.Head) { h.Kind = -1 }),
		"no Name":             turned(api.Dir, func(h *api.Head) { h.Name = "" }),
		"a nought in Name":    turned(api.Dir, func(h *api.Head) { h.Name = "a\x00" }),
		"a Name of 65537":     turned(api.Dir, func(h *api.Head) { h.Name = of(65537) }),
		"a File's / behind":   turned(api.File, func(h *api.Head) { h.Name = "a/" }),
		"no Link":             turned(api.Sym, func(h *api.Head) { h.Link = "" }),
		"a Link of 65537":     turned(api.Link, func(h *api.Head) { h.Link = of(65537) }),
		"a File's Link":       turned(api.File, func(h *api.Head) { h.Link = "a" }),
		"Mode":                turned(api.File, func(h *api.Head) { h.Mode = -1 }),
		"UID":                 turned(api.File, func(h *api.Head) { h.UID = math.MinInt64 }),
		"GID":                 turned(api.File, func(h *api.Head) { h.GID = -1 }),
		"Size":                turned(api.File, func(h *api.Head) { h.Size = -1 }),
		"a Dir's Size":        turned(api.Dir, func(h *api.Head) { h.Size = 1 }),
		"Nano below 0":        turned(api.File, func(h *api.Head) { h.Time.Nano = -1 }),
		"Nano above":          turned(api.File, func(h *api.Head) { h.Time.Nano = 1000000000 }),
		"a nought in User":    turned(api.File, func(h *api.Head) { h.User = "\x00" }),
		"a User of 65537":     turned(api.File, func(h *api.Head) { h.User = of(65537) }),
		"a nought in Group":   turned(api.File, func(h *api.Head) { h.Group = "\x00" }),
		"a File's Major":      turned(api.File, func(h *api.Head) { h.Major = 1 }),
		"a Fifo's Minor":      turned(api.Fifo, func(h *api.Head) { h.Minor = 1 }),
		"a known key":         turned(api.File, func(h *api.Head) { h.Extra = list("path", "a") }),
		"an empty Value":      turned(api.File, func(h *api.Head) { h.Extra = list("k", "") }),
		"keys that fall":      turned(api.File, func(h *api.Head) { h.Extra = list("k", "v", "a", "v") }),
		"a key that is wrong": turned(api.File, func(h *api.Head) { h.Extra = list("\xff", "v") }),
	}
}

func TestWrongHeads(t *testing.T) {
	for what, h := range wrongs() {
		for _, d := range dialects {
			for field := api.FieldKind; field <= api.FieldRecords; field++ {
				if ok, code := Can(d, h, field); ok || code != api.Form {
					t.Errorf("P11.1: Can(%d, %s, %d): %v, %v", d, what, field, ok, code)
				}
			}
			if f, code := First(d, h); f != 0 || code != api.Form {
				t.Errorf("P11.1: First(%d, %s): %d, %v", d, what, f, code)
			}
			if s, code := Full(d, h); s != "" || code != api.Form {
				t.Errorf("P11.2: Full(%d, %s): %q, %v", d, what, s, code)
			}
		}
		if l, code := Records(h); len(l) != 0 || code != api.Form {
			t.Errorf("P11.2: Records(%s): %q, %v", what, l, code)
		}
	}
}

// TestWrongNumbers asks of numbers that are no dialect and no field, with heads right and wrong.
func TestWrongNumbers(t *testing.T) {
	heads := wrongs()
	heads["right"] = head(api.File)
	heads["not to be told"] = api.Head{Kind: api.Dir, Name: bad(65535) + "/"}
	fields := append(slices.Clone(noFields), 1, 2, 13, 14)
	for what, h := range heads {
		for _, d := range noDialects {
			for _, field := range fields {
				if ok, code := Can(d, h, field); ok || code != api.Arg {
					t.Errorf("P11.1: Can(%d, %s, %d): %v, %v", d, what, field, ok, code)
				}
			}
			if f, code := First(d, h); f != 0 || code != api.Arg {
				t.Errorf("P11.1: First(%d, %s): %d, %v", d, what, f, code)
			}
			if s, code := Full(d, h); s != "" || code != api.Arg {
				t.Errorf("P11.2: Full(%d, %s): %q, %v", d, what, s, code)
			}
		}
		for _, d := range dialects {
			for _, field := range noFields {
				if ok, code := Can(d, h, field); ok || code != api.Arg {
					t.Errorf("P11.1: Can(%d, %s, %d): %v, %v", d, what, field, ok, code)
				}
			}
		}
	}
}

// TestInputsStay hands in lists with more behind them, and changes what was told.
func TestInputsStay(t *testing.T) {
	for _, long := range []bool{false, true} {
		pairs := list("b", "1", "n", "2", "behind", "kept", "behind", "kept")
		h := head(api.Dir)
		h.Extra = pairs[:2]
		if long {
			h.Name, h.UID, h.Group = of(200), m8+1, of(40)
		}
		before := deep(h)
		held(t, h)
		first, _ := Records(h)
		again, _ := Records(h)
		want := slices.Clone(first)
		for i := range first {
			first[i] = api.Pair{Key: "spoilt", Value: "spoilt"}
		}
		_ = append(first, api.Pair{Key: "spoilt", Value: "spoilt"})
		third, _ := Records(h)
		if !slices.Equal(again, want) || !slices.Equal(third, want) {
			t.Errorf("R4: Records, behind a change of what was told: %q, %q", again, third)
		}
		if !reflect.DeepEqual(h, before) || !slices.Equal(pairs, list("b", "1", "n", "2", "behind", "kept", "behind", "kept")) {
			t.Errorf("R4: what was handed in is changed: %q", pairs)
		}
	}
}

// TestMadeUp holds heads put together of fields at the table's edges against the chapter's words.
func TestMadeUp(t *testing.T) {
	r := rand.New(rand.NewSource(11))
	names := []string{"a", "a/", "/", "//", of(98) + "/", of(99), of(99) + "/", of(100), of(101), bad(100), bad(101), "p/" + of(99), "p/" + of(100),
		"p/" + bad(101), of(155) + "/" + of(100), of(156) + "/" + of(99), of(60) + "/" + of(99) + "/", bad(156) + "/", of(300)}
	links := []string{"a", "a/", of(99), of(100), of(101), bad(100), bad(101), "p/" + of(100), of(400)}
	users := []string{"", "", "", "u", of(31), of(32), of(33), bad(32), bad(33)}
	numbers := []int64{0, 0, 1, 1, m8 - 1, m8, m8, m8 + 1, m12 - 1, m12, m12 + 1, p56 - 1, p56, math.MaxInt64}
	secs := []int64{0, 0, 0, 1, m12, m12 + 1, -1, math.MinInt64, math.MaxInt64}
	nanos := []int64{0, 0, 0, 0, 1, 120000000, 999999999}
	keys := []string{"a", "b", "gie", "l", "m", "n", "q", "t", "uie", "z", "\u00e9"}
	for range 60000 {
		h := head(kinds[r.Intn(len(kinds))])
		number := func() int64 { return numbers[r.Intn(4+r.Intn(len(numbers)-3))] }
		h.Name, h.User, h.Group = names[r.Intn(len(names))], users[r.Intn(len(users))], users[r.Intn(len(users))]
		h.Mode, h.UID, h.GID = number(), number(), number()
		h.Time = api.Time{Sec: secs[r.Intn(len(secs))], Nano: nanos[r.Intn(len(nanos))]}
		switch h.Kind {
		case api.File:
			h.Name, h.Size = strings.TrimRight(h.Name, "/")+"f", number()
		case api.Link, api.Sym:
			h.Link = links[r.Intn(len(links))]
		case api.Char, api.Block:
			h.Major, h.Minor = number(), number()
		}
		for _, key := range keys {
			if r.Intn(12) == 0 {
				h.Extra = append(h.Extra, api.Pair{Key: key, Value: of(1 + r.Intn(12))})
			}
		}
		if item.Wrong(h) != 0 {
			t.Fatalf("%s isn't right", short(h))
		}
		held(t, h)
	}
}

func FuzzHead(f *testing.F) {
	f.Add(1, "a", "", int64(2), int64(0), "u", "comment", "c")
	f.Add(6, of(156)+"/", "", int64(0), int64(1), "", "", "")
	f.Add(3, bad(101), "to/", int64(-1), int64(0), of(33), "z", "a")
	f.Add(4, "p/"+of(100), "", int64(m8+1), int64(7), "", "a=b", "\xff")
	f.Add(-1, "", "/", int64(1), int64(-7), "", "a", "")
	f.Fuzz(func(t *testing.T, kind int, name, link string, n, nano int64, user, key, value string) {
		h := api.Head{
			Kind: kind, Name: name, Mode: n, UID: n, GID: n, Time: api.Time{Sec: n, Nano: nano},
			User: user, Group: link, Extra: list(key, value),
		}
		switch kind {
		case api.File:
			h.Size = n
		case api.Link, api.Sym:
			h.Link = link
		case api.Char, api.Block:
			h.Major, h.Minor = n, n
		}
		for _, extra := range [][]api.Pair{h.Extra, nil} {
			h.Extra = extra
			if item.Wrong(h) == 0 {
				held(t, h)
			} else if _, code := First(api.Pax, h); code != api.Form {
				t.Errorf("P11.1: First of %s: %v", short(h), code)
			}
		}
	})
}
