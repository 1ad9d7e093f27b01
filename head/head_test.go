package head

import (
	"bytes"
	"fmt"
	"math"
	"math/rand"
	"strings"
	"testing"

	"oakum/api"
)

// goodFlags are the flags of the chapter, as it numbers them.
func goodFlags() []byte {
	return []byte{0, 48, 49, 50, 51, 52, 53, 54, 55, 120, 103, 76, 75}
}

func isGood(flag byte) bool { return bytes.IndexByte(goodFlags(), flag) >= 0 }

// place is where a field lies.
type place struct{ start, width int }

// numberPlaces are those of the fields that api numbers.
func numberPlaces() map[int]place {
	return map[int]place{
		api.FieldMode: {100, 8}, api.FieldUID: {108, 8}, api.FieldGID: {116, 8}, api.FieldSize: {124, 12},
		api.FieldTime: {136, 12}, api.FieldMajor: {329, 8}, api.FieldMinor: {337, 8},
	}
}

// setNumber is r with n as the number of a field.
func setNumber(r Raw, field int, n int64) Raw {
	switch field {
	case api.FieldMode:
		r.Mode = n
	case api.FieldUID:
		r.UID = n
	case api.FieldGID:
		r.GID = n
	case api.FieldSize:
		r.Size = n
	case api.FieldTime:
		r.Time = n
	case api.FieldMajor:
		r.Major = n
	case api.FieldMinor:
		r.Minor = n
	}
	return r
}

// textPlaces are those of the texts, by their names.
func textPlaces() map[string]place {
	return map[string]place{"Name": {0, 100}, "Link": {157, 100}, "User": {265, 32}, "Group": {297, 32}, "Prefix": {345, 155}}
}

// setText is r with s as its text of this name.
func setText(r Raw, name, s string) Raw {
	switch name {
	case "Name":
		r.Name = s
	case "Link":
		r.Link = s
	case "User":
		r.User = s
	case "Group":
		r.Group = s
	case "Prefix":
		r.Prefix = s
	}
	return r
}

// hasText: does a header of this mark have the text of this name?
func hasText(mark int, name string) bool {
	switch name {
	case "User", "Group":
		return mark == Posix || mark == Gnu
	case "Prefix":
		return mark == Posix
	}
	return true
}

// block is 512 noughts with texts at some places.
func block(places map[int]string) []byte {
	b := make([]byte, 512)
	for i, s := range places {
		copy(b[i:], s)
	}
	return b
}

// sealed is b with the bytes of its sum.
func sealed(b []byte) []byte {
	b = bytes.Clone(b)
	copy(b[148:], "        ")
	total := 0
	for _, c := range b {
		total += int(c)
	}
	copy(b[148:], fmt.Sprintf("%06o\x00 ", total))
	return b
}

// octal is n in w bytes, if it can be put so.
func octal(n int64, w int) (string, bool) {
	if n < 0 {
		return "", false
	}
	if s := fmt.Sprintf("%0*o\x00", w-1, n); len(s) == w {
		return s, true
	}
	s := fmt.Sprintf("%0*o", w, n)
	return s, len(s) == w
}

// wideBytes is n in w bytes, if it can be put so; a w of 8 or of 12 alone.
func wideBytes(n int64, w int) (string, bool) {
	if w == 8 && (n < -1<<56 || n >= 1<<56) {
		return "", false
	}
	first, filler := "\x80", "\x00\x00\x00"
	if n < 0 {
		first, filler = "\xff", "\xff\xff\xff"
	}
	var low []byte
	for i := 7; i >= 0; i-- {
		low = append(low, byte(uint64(n)>>(8*i)))
	}
	if w == 8 {
		return first + string(low[1:]), true
	}
	return first + filler + string(low), true
}

// writer lays fields, and stops at the first error.
type writer struct {
	b    []byte
	wide bool
	code api.Code
}

func (w *writer) text(s string, start, width int) {
	switch {
	case w.code != api.Fine:
	case strings.Contains(s, "\x00"):
		w.code = api.Form
	case len(s) > width:
		w.code = api.Field
	default:
		copy(w.b[start:], s)
	}
}

func (w *writer) number(n int64, start, width int, below bool) {
	if w.code != api.Fine {
		return
	}
	s, ok := octal(n, width)
	if !ok && w.wide {
		s, ok = wideBytes(n, width)
	}
	if !ok || n < 0 && !below {
		w.code = api.Numeral
		return
	}
	copy(w.b[start:], s)
}

// made is what Make must answer, written as the chapter's words say it, field after field.
func made(r Raw, wide, dev bool) ([]byte, api.Code) {
	mark, ok := map[int]string{Old: "", Posix: "ustar\x0000", Gnu: "ustar\x20\x20\x00"}[r.Mark]
	if !ok {
		return nil, api.Arg
	}
	if !isGood(r.Flag) {
		return nil, api.Flag
	}
	w := &writer{b: make([]byte, 512), wide: wide}
	w.text(r.Name, 0, 100)
	w.number(r.Mode, 100, 8, false)
	w.number(r.UID, 108, 8, false)
	w.number(r.GID, 116, 8, false)
	w.number(r.Size, 124, 12, false)
	w.number(r.Time, 136, 12, true)
	w.b[156] = r.Flag
	w.text(r.Link, 157, 100)
	copy(w.b[257:], mark)
	if r.Mark != Old {
		w.text(r.User, 265, 32)
		w.text(r.Group, 297, 32)
		if dev {
			w.number(r.Major, 329, 8, false)
			w.number(r.Minor, 337, 8, false)
		}
	}
	if r.Mark == Posix {
		w.text(r.Prefix, 345, 155)
	}
	if w.code != api.Fine {
		return nil, w.code
	}
	return sealed(w.b), api.Fine
}

// someRaw is a Raw of all fields, no two of them alike.
func someRaw(mark int) Raw {
	return Raw{
		Mark: mark, Flag: '3', Name: "tty", Link: "to", Prefix: "dev/x", User: "root", Group: "wheel",
		Mode: 0o644, UID: 5, GID: 6, Size: 7, Time: 8, Major: 9, Minor: 10,
	}
}

// onlyRead is what Get tells of the header that is made of r: texts that the mark has, and no numbers.
func onlyRead(r Raw) Raw {
	got := Raw{Mark: r.Mark, Flag: r.Flag, Name: r.Name, Link: r.Link}
	if r.Mark != Old {
		got.User, got.Group = r.User, r.Group
	}
	if r.Mark == Posix {
		got.Prefix = r.Prefix
	}
	return got
}

// wrongLengths are lists of bytes that are no blocks.
func wrongLengths() [][]byte {
	return [][]byte{nil, {}, {0}, make([]byte, 8), make([]byte, 157), make([]byte, 511), make([]byte, 513), make([]byte, 1024)}
}

func TestZero(t *testing.T) {
	b := make([]byte, 512)
	if !Zero(b) {
		t.Error("P6.1: 512 noughts aren't Zero")
	}
	for i := range b {
		for _, c := range []byte{1, 32, 48, 128, 255} {
			b[i] = c
			if Zero(b) {
				t.Errorf("P6.1: Zero with the byte %d at %d", c, i)
			}
		}
		b[i] = 0
	}
	for _, b := range wrongLengths() {
		if Zero(b) {
			t.Errorf("P6.1: %d noughts are Zero", len(b))
		}
	}
}

func TestExample(t *testing.T) {
	b := block(map[int]string{148: "000400\x00 "})
	if r, code := Get(b); r != (Raw{}) || code != api.Fine {
		t.Errorf("P6.1: Get of noughts but for the sum: %v, %v", r, code)
	}
	if Zero(b) {
		t.Error("P6.1: noughts but for the sum are Zero")
	}
	if r, code := Get(make([]byte, 512)); r != (Raw{}) || code != api.Sum {
		t.Errorf("P6.1: Get of 512 noughts: %v, %v", r, code)
	}
}

func TestGet(t *testing.T) {
	places := map[int]string{
		0: "name\x00behind", 100: "0000644", 124: "00000000017", 156: "5", 157: "link\x00\x00x",
		265: "user\x00u", 297: "group", 329: "0000001", 337: "0000002", 345: "pre/fix\x00y", 500: "past all fields",
	}
	for _, c := range []struct {
		mark string
		want Raw
	}{
		{"ustar\x0000", Raw{Mark: Posix, Flag: '5', Name: "name", Link: "link", User: "user", Group: "group", Prefix: "pre/fix"}},
		{"ustar  \x00", Raw{Mark: Gnu, Flag: '5', Name: "name", Link: "link", User: "user", Group: "group"}},
		{"\x00\x00\x00\x00\x00\x00\x00\x00", Raw{Mark: Old, Flag: '5', Name: "name", Link: "link"}},
		{"ustar\x00\x00\x00", Raw{Mark: Old, Flag: '5', Name: "name", Link: "link"}},
		{"ustar\x00  ", Raw{Mark: Old, Flag: '5', Name: "name", Link: "link"}},
		{"ustar   ", Raw{Mark: Old, Flag: '5', Name: "name", Link: "link"}},
		{"ustar000", Raw{Mark: Old, Flag: '5', Name: "name", Link: "link"}},
		{"ustar  0", Raw{Mark: Old, Flag: '5', Name: "name", Link: "link"}},
		{"USTAR\x0000", Raw{Mark: Old, Flag: '5', Name: "name", Link: "link"}},
	} {
		places[257] = c.mark
		b := sealed(block(places))
		before := bytes.Clone(b)
		if r, code := Get(b); r != c.want || code != api.Fine {
			t.Errorf("P6.1: Get of the mark %q: %+v, %v; want %+v", c.mark, r, code, c.want)
		}
		if !bytes.Equal(b, before) {
			t.Errorf("R4: Get changed its bytes, mark %q", c.mark)
		}
	}
}

func TestMarkWithOneByteChanged(t *testing.T) {
	for _, mark := range []string{"ustar\x0000", "ustar  \x00"} {
		for i := range len(mark) {
			for c := range 256 {
				if byte(c) == mark[i] {
					continue
				}
				b := []byte(mark)
				b[i] = byte(c)
				places := map[int]string{0: "n", 157: "l", 257: string(b), 265: "u", 297: "g", 345: "p"}
				want := Raw{Name: "n", Link: "l"}
				if r, code := Get(sealed(block(places))); r != want || code != api.Fine {
					t.Errorf("P6.1: Get of the mark %q: %+v, %v", b, r, code)
				}
			}
		}
	}
}

func TestFlags(t *testing.T) {
	for c := range 256 {
		flag := byte(c)
		b := sealed(block(map[int]string{0: "n", 156: string([]byte{flag})}))
		want, wantCode, wantBytes := Raw{Flag: flag, Name: "n"}, api.Fine, 512
		if !isGood(flag) {
			want, wantCode, wantBytes = Raw{}, api.Flag, 0
		}
		if r, code := Get(b); r != want || code != wantCode {
			t.Errorf("P6.1: Get of the flag %d: %+v, %v", flag, r, code)
		}
		for mark := range 3 {
			made, code := Make(Raw{Mark: mark, Flag: flag, Name: "n"}, false, false)
			if len(made) != wantBytes || code != wantCode || code == api.Fine && made[156] != flag {
				t.Errorf("P6.3: Make of the mark %d, the flag %d: %d bytes, %v", mark, flag, len(made), code)
			}
		}
	}
}

func TestGetOfWrongBytes(t *testing.T) {
	for _, b := range wrongLengths() {
		if r, code := Get(b); r != (Raw{}) || code != api.Arg {
			t.Errorf("P6.1: Get of %d bytes: %+v, %v", len(b), r, code)
		}
	}
	right := sealed(block(map[int]string{0: "n", 156: "0", 257: "ustar  \x00"}))
	for _, c := range []struct {
		field string
		flag  byte
		want  api.Code
	}{
		{string(right[148:156]), '0', api.Fine},
		{"        ", '0', api.Sum},
		{"000400\x00 ", '0', api.Sum},
		{"00040x\x00 ", '0', api.Numeral},
		{"\x80\x00\x00\x00\x00\x00\x01\x00", '0', api.Numeral},
		{"no field", 'z', api.Numeral},
		{"000000\x00 ", 'z', api.Sum},
	} {
		b := bytes.Clone(right)
		copy(b[148:], c.field)
		b[156] = c.flag
		r, code := Get(b)
		if code != c.want || code != api.Fine && r != (Raw{}) {
			t.Errorf("P6.1: Get with the sum %q, the flag %q: %+v, %v; want %v", c.field, c.flag, r, code, c.want)
		}
	}
	for _, b := range [][]byte{right[:511], append(bytes.Clone(right), 0)} {
		copy(b[148:], "no field")
		if _, code := Get(b); code != api.Arg {
			t.Errorf("R2: Get of %d bytes whose sum is none: %v", len(b), code)
		}
	}
}

func TestGetBySignedSum(t *testing.T) {
	b := block(map[int]string{0: "\xff\x01", 148: "000400\x00 "})
	if r, code := Get(b); r != (Raw{Name: "\xff\x01"}) || code != api.Fine {
		t.Errorf("P6.1: Get by the signed sum: %+v, %v", r, code)
	}
}

func TestTextsAtTheirEdges(t *testing.T) {
	for name, at := range textPlaces() {
		for mark := range 3 {
			for length := range at.width + 1 {
				checkText(t, mark, name, at, strings.Repeat("\xe9", length))
			}
			long := setText(Raw{Mark: mark}, name, strings.Repeat("a", at.width+1))
			unclean := setText(Raw{Mark: mark}, name, "a\x00")
			both := setText(Raw{Mark: mark}, name, strings.Repeat("a", at.width)+"\x00")
			checkError(t, long, errorIf(hasText(mark, name), api.Field))
			checkError(t, unclean, errorIf(hasText(mark, name), api.Form))
			checkError(t, both, errorIf(hasText(mark, name), api.Form))
		}
	}
}

// errorIf is the code, if the field is there, that is one in it.
func errorIf(there bool, code api.Code) api.Code {
	if there {
		return code
	}
	return api.Fine
}

func checkText(t *testing.T, mark int, name string, at place, s string) {
	t.Helper()
	b, code := Make(setText(Raw{Mark: mark}, name, s), false, true)
	if code != api.Fine {
		t.Errorf("P6.3: Make of the mark %d, a %s of %d bytes: %v", mark, name, len(s), code)
		return
	}
	want := make([]byte, at.width)
	if hasText(mark, name) {
		copy(want, s)
	}
	if !bytes.Equal(b[at.start:at.start+at.width], want) {
		t.Errorf("P6.3: the mark %d, a %s of %d bytes: the field %q", mark, name, len(s), b[at.start:at.start+at.width])
	}
	wantRaw := onlyRead(setText(Raw{Mark: mark}, name, s))
	if r, code := Get(b); r != wantRaw || code != api.Fine {
		t.Errorf("P6.4: the mark %d, a %s of %d bytes: %+v, %v", mark, name, len(s), r, code)
	}
}

func checkError(t *testing.T, r Raw, want api.Code) {
	t.Helper()
	for _, wide := range []bool{false, true} {
		b, code := Make(r, wide, true)
		if code != want || code != api.Fine && len(b) != 0 {
			t.Errorf("P6.3: Make of %+v, %v: %d bytes, %v; want %v", r, wide, len(b), code, want)
		}
	}
}

func TestTextIsReadUpToTheFieldsEnd(t *testing.T) {
	b := make([]byte, 512)
	for i := range b {
		b[i] = 'a' + byte(i%23)
	}
	b[156] = '0'
	copy(b[257:], "ustar\x0000")
	b = sealed(b)
	got, code := Get(b)
	want := Raw{Mark: Posix, Flag: '0'}
	for name, at := range textPlaces() {
		want = setText(want, name, string(b[at.start:at.start+at.width]))
	}
	if got != want || code != api.Fine {
		t.Errorf("P6.1: Get of full fields: %+v, %v; want %+v", got, code, want)
	}
}

func TestNumber(t *testing.T) {
	for field, at := range numberPlaces() {
		for _, c := range []struct {
			bytes string
			want  int64
			code  api.Code
		}{
			{"", 0, api.Fine},
			{" 17\x00 ", 15, api.Fine},
			{"77777777", 1<<24 - 1, api.Fine},
			{"        ", 0, api.Fine},
			{"\x80" + strings.Repeat("\x00", at.width-3) + "\x01\x02", 258, api.Fine},
			{"8", 0, api.Numeral},
			{"-1", 0, api.Numeral},
			{"1\x001", 0, api.Numeral},
			{"\x81", 0, api.Numeral},
			{"\xfe\xff", 0, api.Numeral},
		} {
			b := block(map[int]string{at.start: c.bytes})
			if n, code := Number(b, field); n != c.want || code != c.code {
				t.Errorf("P6.1: Number of %q in field %d: %d, %v; want %d, %v", c.bytes, field, n, code, c.want, c.code)
			}
		}
	}
}

func TestNumberLooksAtItsFieldAlone(t *testing.T) {
	for field, at := range numberPlaces() {
		b := bytes.Repeat([]byte{'x'}, 512)
		clear(b[at.start : at.start+at.width])
		for i := range at.width {
			b[at.start+i] = '1'
			want := int64(0)
			for range i + 1 {
				want = want*8 + 1
			}
			before := bytes.Clone(b)
			if n, code := Number(b, field); n != want || code != api.Fine {
				t.Errorf("P6.1: Number of %d digits in field %d: %d, %v; want %d", i+1, field, n, code, want)
			}
			if !bytes.Equal(b, before) {
				t.Errorf("R4: Number of field %d changed its bytes", field)
			}
		}
		for _, i := range []int{at.start, at.start + at.width - 1} {
			spoilt := bytes.Clone(b)
			spoilt[i] = 'x'
			if n, code := Number(spoilt, field); n != 0 || code != api.Numeral {
				t.Errorf("P6.1: Number of field %d with an x at %d: %d, %v", field, i, n, code)
			}
		}
	}
}

func TestNumberBelowNought(t *testing.T) {
	for field, at := range numberPlaces() {
		for _, n := range []int64{-1, -2, -256, -1 << 56} {
			s, _ := wideBytes(n, at.width)
			want, wantCode := int64(0), api.Numeral
			if field == api.FieldTime {
				want, wantCode = n, api.Fine
			}
			if got, code := Number(block(map[int]string{at.start: s}), field); got != want || code != wantCode {
				t.Errorf("P6.1: Number of %d in field %d: %d, %v", n, field, got, code)
			}
		}
	}
	least := block(map[int]string{136: "\xff\xff\xff\xff\x80\x00\x00\x00\x00\x00\x00\x00"})
	if n, code := Number(least, api.FieldTime); n != math.MinInt64 || code != api.Fine {
		t.Errorf("P6.1: Number of the least time: %d, %v", n, code)
	}
	tooLow := block(map[int]string{136: "\xff\xff\xff\xff\x7f\xff\xff\xff\xff\xff\xff\xff"})
	if n, code := Number(tooLow, api.FieldTime); n != 0 || code != api.Numeral {
		t.Errorf("P6.1: Number of a time below 64 bits: %d, %v", n, code)
	}
}

func TestNumberOfWrongArguments(t *testing.T) {
	b := bytes.Repeat([]byte{'1'}, 512)
	for _, field := range []int{math.MinInt, -8, -1, 0, 1, 2, 3, 9, 10, 13, 14, 15, 100, 345, math.MaxInt} {
		if n, code := Number(b, field); n != 0 || code != api.Arg {
			t.Errorf("P6.1: Number of field %d: %d, %v", field, n, code)
		}
	}
	spoilt := bytes.Repeat([]byte{'x'}, 512)
	if n, code := Number(spoilt, api.FieldName); n != 0 || code != api.Arg {
		t.Errorf("R2: Number of a wrong field in wrong bytes: %d, %v", n, code)
	}
	for _, b := range append(wrongLengths(), b[:511], append(bytes.Clone(spoilt), 'x')) {
		for field := range 16 {
			if n, code := Number(b, field); n != 0 || code != api.Arg {
				t.Errorf("P6.1: Number of field %d in %d bytes: %d, %v", field, len(b), n, code)
			}
		}
	}
}

func TestFull(t *testing.T) {
	for _, c := range []struct {
		r    Raw
		want string
	}{
		{Raw{}, ""},
		{Raw{Name: "a"}, "a"},
		{Raw{Name: "a/"}, "a/"},
		{Raw{Prefix: "p", Name: "a"}, "p/a"},
		{Raw{Prefix: "p/", Name: "/a"}, "p///a"},
		{Raw{Prefix: "p"}, "p/"},
		{Raw{Prefix: "/", Name: ""}, "//"},
		{Raw{Mark: Posix, Prefix: "p/q", Name: "a", Link: "l"}, "p/q/a"},
		{Raw{Mark: Gnu, Prefix: "p", Name: "a"}, "p/a"},
		{Raw{Mark: -1, Flag: 'z', Prefix: "\x00", Name: "\xff"}, "\x00/\xff"},
	} {
		if got := Full(c.r); got != c.want {
			t.Errorf("P6.2: Full of %+v: %q; want %q", c.r, got, c.want)
		}
	}
}

func TestMake(t *testing.T) {
	base := map[int]string{
		0: "tty", 100: "0000644\x00", 108: "0000005\x00", 116: "0000006\x00", 124: "00000000007\x00",
		136: "00000000010\x00", 156: "3", 157: "to",
	}
	owners := map[int]string{265: "root", 297: "wheel"}
	devices := map[int]string{329: "0000011\x00", 337: "0000012\x00"}
	for _, c := range []struct {
		mark int
		dev  bool
		more []map[int]string
	}{
		{Old, false, nil},
		{Old, true, nil},
		{Posix, false, []map[int]string{owners, {257: "ustar\x0000", 345: "dev/x"}}},
		{Posix, true, []map[int]string{owners, devices, {257: "ustar\x0000", 345: "dev/x"}}},
		{Gnu, false, []map[int]string{owners, {257: "ustar  \x00"}}},
		{Gnu, true, []map[int]string{owners, devices, {257: "ustar  \x00"}}},
	} {
		want := block(base)
		for _, places := range c.more {
			for i, s := range places {
				copy(want[i:], s)
			}
		}
		want = sealed(want)
		for _, wide := range []bool{false, true} {
			b, code := Make(someRaw(c.mark), wide, c.dev)
			if !bytes.Equal(b, want) || code != api.Fine {
				t.Errorf("P6.3: Make of the mark %d, %v, %v: %q, %v; want %q", c.mark, wide, c.dev, b, code, want)
			}
		}
	}
}

func TestWhatPlaysNoPart(t *testing.T) {
	wrong := Raw{Prefix: "\x00", User: "\x00", Group: strings.Repeat("g", 33), Major: -1, Minor: 1 << 60}
	plain, _ := Make(Raw{}, false, false)
	for _, dev := range []bool{false, true} {
		if b, code := Make(wrong, false, dev); !bytes.Equal(b, plain) || code != api.Fine {
			t.Errorf("P6.3: Make of Old with what plays no part in it, %v: %v", dev, code)
		}
	}
	plain, _ = Make(Raw{Mark: Gnu}, false, true)
	for _, prefix := range []string{"p", "\x00", strings.Repeat("p", 156)} {
		if b, code := Make(Raw{Mark: Gnu, Prefix: prefix}, false, true); !bytes.Equal(b, plain) || code != api.Fine {
			t.Errorf("P6.3: Make of Gnu with the Prefix %q: %v", prefix, code)
		}
	}
	for _, mark := range []int{Posix, Gnu} {
		plain, _ = Make(Raw{Mark: mark}, false, false)
		if string(plain[329:345]) != strings.Repeat("\x00", 16) {
			t.Errorf("P6.3: Make of the mark %d without devices: %q", mark, plain[329:345])
		}
		if b, code := Make(Raw{Mark: mark, Major: -1, Minor: 1 << 60}, true, false); !bytes.Equal(b, plain) || code != api.Fine {
			t.Errorf("P6.3: Make of the mark %d with wrong devices that don't stand there: %v", mark, code)
		}
	}
}

func TestNumbersAtTheirEdges(t *testing.T) {
	for field, at := range numberPlaces() {
		most := int64(1)<<(3*at.width) - 1
		edges := []int64{0, 1, 7, 8, most>>3 - 1, most >> 3, most>>3 + 1, most - 1, most, most + 1, 1<<56 - 1, 1 << 56, math.MaxInt64, -1, -256, -1 << 56, -1<<56 - 1, math.MinInt64}
		for _, n := range edges {
			for _, wide := range []bool{false, true} {
				checkNumber(t, field, at, n, wide)
			}
		}
	}
}

func checkNumber(t *testing.T, field int, at place, n int64, wide bool) {
	t.Helper()
	want, ok := octal(n, at.width)
	if !ok && wide {
		want, ok = wideBytes(n, at.width)
	}
	if n < 0 && field != api.FieldTime {
		ok = false
	}
	b, code := Make(setNumber(Raw{Mark: Gnu}, field, n), wide, true)
	if !ok {
		if len(b) != 0 || code != api.Numeral {
			t.Errorf("P6.3: Make of %d in field %d, %v: %d bytes, %v", n, field, wide, len(b), code)
		}
		return
	}
	if code != api.Fine || string(b[at.start:at.start+at.width]) != want {
		t.Errorf("P6.3: Make of %d in field %d, %v: %v; want %q", n, field, wide, code, want)
		return
	}
	if got, code := Number(b, field); got != n || code != api.Fine {
		t.Errorf("P6.4: %d in field %d, %v: %d, %v", n, field, wide, got, code)
	}
}

func TestMarksThatThereAreNot(t *testing.T) {
	for _, mark := range []int{math.MinInt, -256, -1, 3, 4, 256, 1 << 32, math.MaxInt} {
		for _, r := range []Raw{{}, {Flag: 'z'}, {Name: "\x00"}, {Mode: -1}, someRaw(Old)} {
			r.Mark = mark
			checkError(t, r, api.Arg)
		}
	}
}

// wrong is something that can be wrong with a Raw, and the code that tells it.
type wrong struct {
	name  string
	spoil func(*Raw)
	code  api.Code
}

// wrongs are in the order in which they are looked for, each text's in both ways, so that next to any other thing one of them shows which comes first.
func wrongs() []wrong {
	long := strings.Repeat("a", 200)
	return []wrong{
		{"Mark", func(r *Raw) { r.Mark = 3 }, api.Arg},
		{"Flag", func(r *Raw) { r.Flag = 'z' }, api.Flag},
		{"Name", func(r *Raw) { r.Name = "\x00" }, api.Form},
		{"Name", func(r *Raw) { r.Name = long }, api.Field},
		{"Mode", func(r *Raw) { r.Mode = -1 }, api.Numeral},
		{"UID", func(r *Raw) { r.UID = -1 }, api.Numeral},
		{"GID", func(r *Raw) { r.GID = -1 }, api.Numeral},
		{"Size", func(r *Raw) { r.Size = -1 }, api.Numeral},
		{"Time", func(r *Raw) { r.Time = -1 }, api.Numeral},
		{"Link", func(r *Raw) { r.Link = "\x00" }, api.Form},
		{"Link", func(r *Raw) { r.Link = long }, api.Field},
		{"User", func(r *Raw) { r.User = "\x00" }, api.Form},
		{"User", func(r *Raw) { r.User = long }, api.Field},
		{"Group", func(r *Raw) { r.Group = "\x00" }, api.Form},
		{"Group", func(r *Raw) { r.Group = long }, api.Field},
		{"Major", func(r *Raw) { r.Major = -1 }, api.Numeral},
		{"Minor", func(r *Raw) { r.Minor = -1 }, api.Numeral},
		{"Prefix", func(r *Raw) { r.Prefix = "\x00" }, api.Form},
		{"Prefix", func(r *Raw) { r.Prefix = long }, api.Field},
	}
}

func TestTheFirstErrorIsTold(t *testing.T) {
	all := wrongs()
	for i, first := range all {
		for _, second := range all[i:] {
			if first.name == second.name && first.code != second.code {
				continue
			}
			r := Raw{Mark: Posix}
			second.spoil(&r)
			first.spoil(&r)
			b, code := Make(r, false, true)
			if len(b) != 0 || code != first.code {
				t.Errorf("P6.3: Make with a wrong %s and a wrong %s: %d bytes, %v; want %v", first.name, second.name, len(b), code, first.code)
			}
		}
	}
}

func TestAllWrongAtOnce(t *testing.T) {
	all := wrongs()
	for i := range all {
		r := Raw{Mark: Posix}
		for k := len(all) - 1; k >= i; k-- {
			all[k].spoil(&r)
		}
		if _, code := Make(r, false, true); code != all[i].code {
			t.Errorf("P6.3: Make with all wrong from %s on: %v; want %v", all[i].name, code, all[i].code)
		}
	}
}

// someText is a text of the lengths at which fields turn, sometimes with a nought.
func someText(dice *rand.Rand) string {
	lengths := []int{0, 0, 0, 1, 5, 31, 32, 33, 99, 100, 101, 154, 155, 156}
	b := make([]byte, lengths[dice.Intn(len(lengths))])
	for i := range b {
		b[i] = byte(1 + dice.Intn(255))
	}
	if len(b) > 0 && dice.Intn(20) == 0 {
		b[dice.Intn(len(b))] = 0
	}
	return string(b)
}

// someNumber is one of as many bits as not, seldom below 0.
func someNumber(dice *rand.Rand) int64 {
	n := int64(dice.Uint64() >> (1 + dice.Intn(63)))
	switch dice.Intn(20) {
	case 0:
		return -n
	case 1, 2:
		return []int64{1<<21 - 1, 1 << 21, 1<<24 - 1, 1 << 24, 1<<33 - 1, 1 << 33, 1<<36 - 1, 1 << 36}[dice.Intn(8)]
	case 3, 4, 5:
		return n
	}
	return n & (1<<24 - 1)
}

func anyRaw(dice *rand.Rand) Raw {
	r := Raw{Mark: dice.Intn(3), Flag: goodFlags()[dice.Intn(13)]}
	if dice.Intn(50) == 0 {
		r.Mark = dice.Intn(9) - 4
	}
	if dice.Intn(50) == 0 {
		r.Flag = byte(dice.Intn(256))
	}
	for _, name := range []string{"Name", "Link", "User", "Group", "Prefix"} {
		if dice.Intn(3) == 0 {
			r = setText(r, name, someText(dice))
		}
	}
	for field := range 13 {
		r = setNumber(r, field, someNumber(dice))
	}
	return r
}

func TestAnyRaw(t *testing.T) {
	dice := rand.New(rand.NewSource(6))
	fine := 0
	for range 20000 {
		r, wide, dev := anyRaw(dice), dice.Intn(3) > 0, dice.Intn(2) == 0
		want, wantCode := made(r, wide, dev)
		b, code := Make(r, wide, dev)
		if !bytes.Equal(b, want) || code != wantCode {
			t.Fatalf("P6.3: Make of %+v, %v, %v: %q, %v; want %q, %v", r, wide, dev, b, code, want, wantCode)
		}
		if code == api.Fine {
			fine++
			checkIsGot(t, b, r, dev)
		}
	}
	if fine < 2000 {
		t.Errorf("only %d headers were made", fine)
	}
}

// checkIsGot holds what is got from b against r, of which it was made.
func checkIsGot(t *testing.T, b []byte, r Raw, dev bool) {
	t.Helper()
	if got, code := Get(b); got != onlyRead(r) || code != api.Fine {
		t.Fatalf("P6.4: Get of what was made of %+v: %+v, %v", r, got, code)
	}
	if r.Mark == Old || !dev {
		r.Major, r.Minor = 0, 0
	}
	numbers := map[int]int64{
		api.FieldMode: r.Mode, api.FieldUID: r.UID, api.FieldGID: r.GID, api.FieldSize: r.Size,
		api.FieldTime: r.Time, api.FieldMajor: r.Major, api.FieldMinor: r.Minor,
	}
	for field, want := range numbers {
		if n, code := Number(b, field); n != want || code != api.Fine {
			t.Fatalf("P6.4: Number of field %d of what was made of %+v: %d, %v", field, r, n, code)
		}
	}
	if Zero(b) {
		t.Fatalf("P6.4: what was made of %+v is Zero", r)
	}
}

func TestMakeIsNewMemory(t *testing.T) {
	r := someRaw(Posix)
	first, _ := Make(r, false, true)
	clear(first)
	second, _ := Make(r, false, true)
	if want, _ := made(r, false, true); !bytes.Equal(second, want) {
		t.Error("R4: Make answers memory that was told ahead")
	}
	got, _ := Get(second)
	clear(second)
	if got != onlyRead(r) {
		t.Errorf("R4: Get's texts are those of the bytes: %+v", got)
	}
}
