package step

import (
	"bytes"
	"math"
	"math/rand"
	"slices"
	"strings"
	"testing"

	"oakum/api"
	"oakum/head"
	"oakum/item"
	"oakum/pax"
	"oakum/sum"
)

var zeros = make([]byte, 512)

// made is a header, in which numbers may be wide, and Major and Minor stand.
func made(r head.Raw) []byte {
	b, code := head.Make(r, true, true)
	if code != api.Fine {
		panic("no header: " + code.String())
	}
	return b
}

// spoilt is a header with other bytes at a place, whose sum fits.
func spoilt(b []byte, at int, put string) []byte {
	b = slices.Clone(b)
	copy(b[at:], put)
	b, code := sum.Seal(b)
	if code != api.Fine {
		panic("no sum: " + code.String())
	}
	return b
}

// padded is s in blocks.
func padded(s string) [][]byte {
	var l [][]byte
	for len(s) > 0 {
		b := make([]byte, 512)
		s = s[copy(b, s):]
		l = append(l, b)
	}
	return l
}

// ext is a header of this flag, and its payload.
func ext(flag byte, payload string) [][]byte {
	h := made(head.Raw{Mark: head.Gnu, Flag: flag, Name: "ext", Size: int64(len(payload))})
	return append([][]byte{h}, padded(payload)...)
}

// recs are those of keys and values that take turns.
func recs(flag byte, texts ...string) [][]byte {
	var l []api.Pair
	for i := 0; i < len(texts); i += 2 {
		l = append(l, api.Pair{Key: texts[i], Value: texts[i+1]})
	}
	b, code := pax.Print(l)
	if code != api.Fine {
		panic("no records: " + code.String())
	}
	return ext(flag, string(b))
}

func one(b []byte) [][]byte { return [][]byte{b} }

func file(name string) [][]byte { return one(made(head.Raw{Flag: '0', Name: name})) }

func join(l ...[][]byte) [][]byte { return slices.Concat(l...) }

func sameEvent(a, b Event) bool {
	return a.Kind == b.Kind && bytes.Equal(a.Data, b.Data) && item.Same(api.Item{Head: a.Head}, api.Item{Head: b.Head})
}

// holds a decoder against what it should tell behind a block.
func holds(t *testing.T, d *Decoder, e Event, code api.Code, want answer, where string) {
	t.Helper()
	if !sameEvent(e, want.event) || code != want.code {
		t.Fatalf("P15.1: %s: Block: %+v, %v; want %+v, %v", where, e, code, want.event, want.code)
	}
	stays(t, d, want, where)
	if e.Kind == Item && item.Wrong(e.Head) != 0 {
		t.Fatalf("P15.4: %s: field %d of %+v isn't right", where, item.Wrong(e.Head), e.Head)
	}
}

// stays holds what a decoder tells without a block; asked twice, since asking changes nothing.
func stays(t *testing.T, d *Decoder, want answer, where string) {
	t.Helper()
	for range 2 {
		if d.Fault() != want.fault {
			t.Fatalf("P15.1: %s: Fault: %v; want %v", where, d.Fault(), want.fault)
		}
		if d.Blocks() != want.blocks {
			t.Fatalf("P15.1: %s: Blocks: %d; want %d", where, d.Blocks(), want.blocks)
		}
		if got := d.Stop(false); got != want.stop {
			t.Fatalf("P15.2: %s: Stop(false): %v; want %v", where, got, want.stop)
		}
		if got := d.Stop(true); got != want.rest {
			t.Fatalf("P15.2: %s: Stop(true): %v; want %v", where, got, want.rest)
		}
		if d.Held() != want.held {
			t.Fatalf("P15.3: %s: Held: %d; want %d", where, d.Held(), want.held)
		}
	}
}

// atFirst is what a decoder tells ahead of all blocks.
func atFirst() answer {
	return answer{stop: api.Fault{Code: api.Trailer}, rest: api.Fault{Code: api.Short}}
}

// follow holds a decoder against the chapter's words, block by block.
func follow(t *testing.T, name string, blocks [][]byte) []answer {
	t.Helper()
	d := New()
	stays(t, d, atFirst(), name+", at first")
	want := walk(blocks)
	for i, b := range blocks {
		e, code := d.Block(b)
		holds(t, d, e, code, want[i], name+", block "+string('0'+rune(i/100))+string('0'+rune(i/10%10))+string('0'+rune(i%10)))
	}
	return want
}

// last is what was told of the last block.
func last(t *testing.T, name string, blocks [][]byte) answer {
	t.Helper()
	l := follow(t, name, blocks)
	return l[len(l)-1]
}

func TestExamples(t *testing.T) {
	d := New()
	for i, kind := range []int{Nothing, End, Nothing, Nothing} {
		e, code := d.Block(zeros)
		if !sameEvent(e, Event{Kind: kind}) || code != api.Fine || d.Blocks() != int64(min(i+1, 2)) {
			t.Errorf("P15.1: block of noughts %d: %v, %v, %d", i, e, code, d.Blocks())
		}
		want := api.Fault{Code: api.Trailer, Block: 1}
		if i > 0 {
			want = api.Fault{}
		}
		if got := d.Stop(false); got != want {
			t.Errorf("P15.2: Stop behind block of noughts %d: %v; want %v", i, got, want)
		}
	}
	if got := New().Stop(false); got != (api.Fault{Code: api.Trailer}) {
		t.Errorf("P15.2: Stop of no block: %v", got)
	}
}

// TestFaults asks for the fault that blocks come to, and at which of them it is met.
func TestFaults(t *testing.T) {
	plain := head.Raw{Mark: head.Posix, Flag: '0', Name: "n", User: "u", Group: "g"}
	with := func(change func(*head.Raw)) [][]byte {
		r := plain
		change(&r)
		return one(made(r))
	}
	bad := func(flag byte, mark, at int, put string) [][]byte {
		r := plain
		r.Flag, r.Mark, r.Link = flag, mark, "to"
		return one(spoilt(made(r), at, put))
	}
	none := "12345"
	below := "\xff\xff\xff\xff\xff\xff\xff\xff\xff\xff\xff\xff"
	noSum := slices.Clone(made(plain))
	noSum[0]++
	noNumeral := slices.Clone(made(plain))
	noNumeral[148] = 'z'
	one0, two0 := one(zeros), join(one(zeros), one(zeros))
	for _, c := range []struct {
		name   string
		blocks [][]byte
		code   api.Code
		block  int64
	}{
		{"a header", with(func(*head.Raw) {}), api.Fine, 0},
		{"another sum", one(noSum), api.Sum, 0},
		{"no sum", one(noNumeral), api.Numeral, 0},
		{"another sum at 1", join(file("a"), one(noSum)), api.Sum, 1},
		{"a flag that there isn't", bad('0', head.Posix, 156, "8"), api.Flag, 0},
		{"a sparse flag", bad('0', head.Gnu, 156, "S"), api.Flag, 0},
		{"noughts but for a byte", one(append(make([]byte, 511), 1)), api.Sum, 0},

		{"Mode", bad('0', head.Posix, 100, none+"9 "), api.Numeral, 0},
		{"UID", bad('0', head.Posix, 108, none+"9 "), api.Numeral, 0},
		{"GID", bad('0', head.Posix, 116, none+"9 "), api.Numeral, 0},
		{"Size", bad('0', head.Posix, 124, none+"9 "), api.Numeral, 0},
		{"Time", bad('0', head.Posix, 136, none+"9 "), api.Numeral, 0},
		{"Mode below 0", bad('0', head.Gnu, 100, below[:8]), api.Numeral, 0},
		{"UID below 0", bad('0', head.Gnu, 108, below[:8]), api.Numeral, 0},
		{"GID below 0", bad('0', head.Gnu, 116, below[:8]), api.Numeral, 0},
		{"Size below 0", bad('0', head.Gnu, 124, below), api.Numeral, 0},
		{"Time below 0", bad('0', head.Gnu, 136, below), api.Fine, 0},
		{"Major of Char", bad('3', head.Posix, 329, none+"9 "), api.Numeral, 0},
		{"Minor of Char", bad('3', head.Posix, 337, none+"9 "), api.Numeral, 0},
		{"Major of Block", bad('4', head.Gnu, 329, none+"9 "), api.Numeral, 0},
		{"Minor of Block", bad('4', head.Gnu, 337, none+"9 "), api.Numeral, 0},
		{"Major of an old Char", bad('3', head.Old, 329, none+"9 "), api.Fine, 0},
		{"Minor of an old Block", bad('4', head.Old, 337, none+"9 "), api.Fine, 0},
		{"Major of a File", bad('0', head.Posix, 329, none+"9 "), api.Fine, 0},
		{"Minor of a Fifo", bad('6', head.Gnu, 337, none+"9 "), api.Fine, 0},
		{"Major of a Link", bad('1', head.Gnu, 329, none+"9 "), api.Fine, 0},
		{"Major of a Dir", bad('5', head.Posix, 329, none+"9 "), api.Fine, 0},
		{"a number that records say is read, too", join(recs('x', "uid", "5"), bad('0', head.Posix, 108, none+"9 ")), api.Numeral, 2},

		{"Mode of x", bad('x', head.Posix, 100, none+"9 "), api.Fine, 0},
		{"Size of x", bad('x', head.Posix, 124, none+"9 "), api.Numeral, 0},
		{"Size of g", bad('g', head.Old, 124, none+"9 "), api.Numeral, 0},
		{"Size of L", bad('L', head.Gnu, 124, below), api.Numeral, 0},
		{"Size of K", bad('K', head.Gnu, 124, none+"9 "), api.Numeral, 0},
		{"x of no bytes", ext('x', ""), api.Fine, 0},
		{"g of no bytes", ext('g', ""), api.Fine, 0},
		{"L of no bytes", ext('L', ""), api.Name, 0},
		{"K of no bytes", join(file("a"), ext('K', "")), api.Name, 1},
		{"L of a nought", ext('L', "\x00long"), api.Name, 0},
		{"K of noughts", join(file("a"), ext('K', strings.Repeat("\x00", 1030))), api.Name, 1},
		{"x of no records", join(file("a"), ext('x', "9 path=a\nz")), api.Record, 1},
		{"g of no records", ext('g', "9 path=\x00\n"), api.Record, 0},
		{"x of a record that isn't ended in its payload", ext('x', "9 path=a"), api.Record, 0},
		{"x of many blocks and no records", ext('x', strings.Repeat("9 path=a\n", 300)+"1"), api.Record, 0},
		{"x of a wrong uid", ext('x', "9 uid=-1\n"), api.Record, 0},

		{"no Name", with(func(r *head.Raw) { r.Name = "" }), api.Name, 0},
		{"no Name of Old", with(func(r *head.Raw) { r.Mark, r.Name = head.Old, "" }), api.Name, 0},
		{"Prefix without Name", with(func(r *head.Raw) { r.Name, r.Prefix = "", "p" }), api.Name, 0},
		{"Prefix without Name of a Dir", with(func(r *head.Raw) { r.Flag, r.Name, r.Prefix = '5', "", "p" }), api.Name, 0},
		{"Link without Link", with(func(r *head.Raw) { r.Flag = '1' }), api.Name, 0},
		{"Sym without Link", with(func(r *head.Raw) { r.Flag = '2' }), api.Name, 0},
		{"Sym with Link", with(func(r *head.Raw) { r.Flag, r.Link = '2', "to" }), api.Fine, 0},
		{"Dir of bytes", with(func(r *head.Raw) { r.Flag, r.Size = '5', 1 }), api.Size, 0},
		{"Link of bytes", with(func(r *head.Raw) { r.Flag, r.Link, r.Size = '1', "to", 1 }), api.Size, 0},
		{"Sym of bytes", with(func(r *head.Raw) { r.Flag, r.Link, r.Size = '2', "to", 1 }), api.Size, 0},
		{"Char of bytes", with(func(r *head.Raw) { r.Flag, r.Size = '3', 1 }), api.Size, 0},
		{"Block of bytes", with(func(r *head.Raw) { r.Flag, r.Size = '4', 1 }), api.Size, 0},
		{"Fifo of bytes", with(func(r *head.Raw) { r.Flag, r.Size = '6', 513 }), api.Size, 0},
		{"a File that is a Dir, of bytes", with(func(r *head.Raw) { r.Name, r.Size = "a/", 1 }), api.Size, 0},
		{"a File that is a Dir by its long name, of bytes", join(ext('L', "a/"), with(func(r *head.Raw) { r.Size = 1 })), api.Size, 2},
		{"a Dir of bytes by its name, that is a File by its long name", join(ext('L', "a"), with(func(r *head.Raw) { r.Name, r.Size = "a/", 1 })), api.Fine, 0},
		{"a Dir of bytes by its records", join(recs('x', "size", "1"), with(func(r *head.Raw) { r.Flag = '5' })), api.Size, 2},
		{"a Dir of bytes by the global overlay", join(recs('g', "size", "1"), with(func(r *head.Raw) { r.Flag = '5' })), api.Size, 2},
		{"a Dir of no bytes by its records", join(recs('x', "size", "0"), with(func(r *head.Raw) { r.Flag, r.Size = '5', 9 })), api.Fine, 0},

		{"noughts, and a header", join(one0, file("a")), api.Sum, 0},
		{"noughts, and spoilt bytes", join(file("a"), one0, one(noNumeral)), api.Sum, 1},
		{"noughts, and all but noughts", join(one0, one(append(make([]byte, 511), 1))), api.Sum, 0},
		{"pending and noughts, and a header", join(ext('L', "n"), one0, file("a")), api.Sum, 2},
		{"noughts", join(file("a"), two0), api.Fine, 0},
		{"behind the end", join(two0, one(noSum), file("a")), api.Fine, 0},
		{"a long name and noughts", join(ext('L', "n"), two0), api.Dangling, 0},
		{"a long link and noughts", join(file("a"), ext('K', "n"), two0), api.Dangling, 1},
		{"records and noughts", join(recs('x', "uid", "1"), two0), api.Dangling, 0},
		{"records of no bytes and noughts", join(file("a"), ext('x', ""), two0), api.Dangling, 1},
		{"global records and noughts", join(recs('g', "uid", "1"), two0), api.Fine, 0},
		{"name, link, records", join(file("a"), ext('L', "n"), ext('K', "n"), recs('x', "uid", "1"), two0), api.Dangling, 1},
		{"records, link, name", join(recs('x', "uid", "1"), ext('K', "n"), ext('L', "n"), two0), api.Dangling, 0},
		{"link, name", join(file("a"), ext('K', "n"), ext('L', "n"), two0), api.Dangling, 1},
		{"two names", join(ext('L', "n"), ext('L', "m"), two0), api.Dangling, 2},
		{"two links", join(ext('K', "n"), ext('K', "m"), two0), api.Dangling, 2},
		{"two records", join(recs('x', "uid", "1"), recs('x', "uid", "1"), two0), api.Dangling, 2},
		{"name, link, another name", join(ext('L', "n"), ext('K', "n"), ext('L', "m"), two0), api.Dangling, 2},
		{"name, item", join(ext('L', "n"), ext('K', "n"), recs('x', "uid", "1"), file("a"), two0), api.Fine, 0},
	} {
		got := last(t, c.name, c.blocks)
		if want := (api.Fault{Code: c.code, Block: c.block}); got.fault != want {
			t.Errorf("P15.1: %s: fault %v; want %v", c.name, got.fault, want)
		}
	}
}

// TestHeads asks for the head that blocks end with.
func TestHeads(t *testing.T) {
	raw := head.Raw{
		Mark: head.Posix, Flag: '0', Name: "n", Link: "l", Prefix: "p", User: "u", Group: "g",
		Mode: 1, UID: 2, GID: 3, Size: 0, Time: 5, Major: 6, Minor: 7,
	}
	with := func(change func(*head.Raw)) [][]byte {
		r := raw
		change(&r)
		return one(made(r))
	}
	flag := func(flag byte) [][]byte { return with(func(r *head.Raw) { r.Flag = flag }) }
	base := api.Head{Kind: api.File, Name: "p/n", Mode: 1, UID: 2, GID: 3, Time: api.Time{Sec: 5}, User: "u", Group: "g"}
	of := func(kind int, link string, major, minor int64) api.Head {
		h := base
		h.Kind, h.Link, h.Major, h.Minor = kind, link, major, minor
		return h
	}
	but := func(change func(*api.Head)) api.Head {
		h := base
		change(&h)
		return h
	}
	sym := of(api.Sym, "l", 0, 0)
	symTo := func(link string) api.Head { return of(api.Sym, link, 0, 0) }
	named := func(name string) api.Head { return but(func(h *api.Head) { h.Name = name }) }
	for _, c := range []struct {
		name   string
		blocks [][]byte
		want   api.Head
	}{
		{"flag 0 as a letter", flag('0'), base},
		{"flag 0 as a byte", flag(0), base},
		{"flag 7", flag('7'), base},
		{"flag 1", flag('1'), of(api.Link, "l", 0, 0)},
		{"flag 2", flag('2'), sym},
		{"flag 3", flag('3'), of(api.Char, "", 6, 7)},
		{"flag 4", flag('4'), of(api.Block, "", 6, 7)},
		{"flag 5", flag('5'), of(api.Dir, "", 0, 0)},
		{"flag 6", flag('6'), of(api.Fifo, "", 0, 0)},
		{"Gnu", with(func(r *head.Raw) { r.Mark = head.Gnu }), named("n")},
		{"Gnu Char", with(func(r *head.Raw) { r.Mark, r.Flag = head.Gnu, '3' }), api.Head{Kind: api.Char, Name: "n", Mode: 1, UID: 2, GID: 3, Time: api.Time{Sec: 5}, User: "u", Group: "g", Major: 6, Minor: 7}},
		{"Old", with(func(r *head.Raw) { r.Mark = head.Old }), api.Head{Kind: api.File, Name: "n", Mode: 1, UID: 2, GID: 3, Time: api.Time{Sec: 5}}},
		{"Old Char", one(spoilt(made(head.Raw{Flag: '3', Name: "n"}), 329, "0000006\x000000007\x00")), api.Head{Kind: api.Char, Name: "n"}},
		{"Size", with(func(r *head.Raw) { r.Size = math.MaxInt64 }), but(func(h *api.Head) { h.Size = math.MaxInt64 })},
		{"Time below 0", with(func(r *head.Raw) { r.Time = math.MinInt64 }), but(func(h *api.Head) { h.Time.Sec = math.MinInt64 })},

		{"a/", with(func(r *head.Raw) { r.Name = "a/" }), but(func(h *api.Head) { h.Kind, h.Name = api.Dir, "p/a" })},
		{"a/ of flag 7", with(func(r *head.Raw) { r.Flag, r.Name = '7', "a/" }), but(func(h *api.Head) { h.Kind, h.Name = api.Dir, "p/a" })},
		{"a/ of a Dir", with(func(r *head.Raw) { r.Flag, r.Name = '5', "a/" }), but(func(h *api.Head) { h.Kind, h.Name = api.Dir, "p/a" })},
		{"a// of a Dir", with(func(r *head.Raw) { r.Flag, r.Name = '5', "a//" }), but(func(h *api.Head) { h.Kind, h.Name = api.Dir, "p/a/" })},
		{"/ of a Dir", with(func(r *head.Raw) { r.Flag, r.Name, r.Prefix = '5', "/", "" }), but(func(h *api.Head) { h.Kind, h.Name = api.Dir, "/" })},
		{"/ of a File", with(func(r *head.Raw) { r.Name, r.Prefix = "/", "" }), but(func(h *api.Head) { h.Kind, h.Name = api.Dir, "/" })},
		{"a/ of a Fifo", with(func(r *head.Raw) { r.Flag, r.Name = '6', "a/" }), but(func(h *api.Head) { h.Kind, h.Name = api.Fifo, "p/a/" })},

		{"long name", join(ext('L', "long\x00er"), flag('0')), named("long")},
		{"long name of a whole block", join(ext('L', strings.Repeat("n", 512)), flag('0')), named(strings.Repeat("n", 512))},
		{"long name of more than a block", join(ext('L', strings.Repeat("n", 513)+"\x00"), flag('0')), named(strings.Repeat("n", 513))},
		{"long name that is a Dir", join(ext('L', "a/"), flag('0')), but(func(h *api.Head) { h.Kind, h.Name = api.Dir, "a" })},
		{"two long names", join(ext('L', "one"), ext('L', "two"), flag('0')), named("two")},
		{"long name of the item ahead", join(ext('L', "one"), file("a"), flag('0')), base},
		{"long name behind a Prefix without Name", join(ext('L', "one"), with(func(r *head.Raw) { r.Name = "" })), named("one")},
		{"path behind a Prefix without Name", join(recs('x', "path", "one"), with(func(r *head.Raw) { r.Name = "" })), named("one")},
		{"global path behind a Prefix without Name", join(recs('g', "path", "one"), with(func(r *head.Raw) { r.Name = "" })), named("one")},
		{"long name without Name", join(ext('L', "one"), with(func(r *head.Raw) { r.Name, r.Prefix = "", "" })), named("one")},
		{"path over a long name", join(recs('x', "path", "one"), ext('L', "two"), flag('0')), named("one")},
		{"global path over a long name", join(recs('g', "path", "one"), ext('L', "two"), flag('0')), named("one")},

		{"long link of a Sym", join(ext('K', "long"), flag('2')), symTo("long")},
		{"long link of a Link", join(ext('K', "long"), flag('1')), of(api.Link, "long", 0, 0)},
		{"long link of a File", join(ext('K', "long"), flag('0')), base},
		{"long link of the item ahead", join(ext('K', "long"), file("a"), flag('2')), sym},
		{"long link without Link", join(ext('K', "long"), with(func(r *head.Raw) { r.Flag, r.Link = '2', "" })), symTo("long")},
		{"two long links", join(ext('K', "one"), ext('K', "two"), flag('2')), symTo("two")},
		{"linkpath over a long link", join(ext('K', "long"), recs('x', "linkpath", "path/"), flag('2')), symTo("path/")},
		{"linkpath without Link", join(recs('x', "linkpath", "path"), with(func(r *head.Raw) { r.Flag, r.Link = '2', "" })), symTo("path")},
		{"linkpath of a File", join(recs('x', "linkpath", "path"), flag('0')), base},
		{"linkpath of a Char", join(recs('g', "linkpath", "path"), flag('3')), of(api.Char, "", 6, 7)},

		{"all keys", join(recs('x', "uid", "10", "gid", "11", "size", "12", "mtime", "-1.5", "uname", "U", "gname", "G", "path", "P", "b", "B", "a", "A"), flag('0')),
			api.Head{Kind: api.File, Name: "P", Mode: 1, UID: 10, GID: 11, Size: 12, Time: api.Time{Sec: -2, Nano: 5e8}, User: "U", Group: "G", Extra: []api.Pair{{Key: "a", Value: "A"}, {Key: "b", Value: "B"}}}},
		{"all keys, global", join(recs('g', "uid", "10", "gid", "11", "size", "12", "mtime", "-1.5", "uname", "U", "gname", "G", "path", "P", "b", "B", "a", "A"), flag('0')),
			api.Head{Kind: api.File, Name: "P", Mode: 1, UID: 10, GID: 11, Size: 12, Time: api.Time{Sec: -2, Nano: 5e8}, User: "U", Group: "G", Extra: []api.Pair{{Key: "a", Value: "A"}, {Key: "b", Value: "B"}}}},
		{"records over global ones", join(recs('g', "uid", "10", "gid", "11"), recs('x', "uid", "12"), flag('0')), but(func(h *api.Head) { h.UID, h.GID = 12, 11 })},
		{"global ones behind records", join(recs('x', "uid", "12"), recs('g', "uid", "10", "gid", "11"), flag('0')), but(func(h *api.Head) { h.UID, h.GID = 12, 11 })},
		{"records take a global one away", join(recs('g', "uid", "10", "gid", "11"), recs('x', "uid", ""), flag('0')), but(func(h *api.Head) { h.GID = 11 })},
		{"records take a global one away of their item alone", join(recs('g', "uid", "10"), recs('x', "uid", ""), file("a"), flag('0')), but(func(h *api.Head) { h.UID = 10 })},
		{"records say the same key twice", join(recs('x', "uid", "1", "c", "x", "uid", "9", "c", ""), flag('0')), but(func(h *api.Head) { h.UID = 9 })},
		{"records take away, and say again", join(recs('g', "c", "x"), recs('x', "c", "", "c", "y"), flag('0')), but(func(h *api.Head) { h.Extra = []api.Pair{{Key: "c", Value: "y"}} })},
		{"records say, and take away", join(recs('g', "c", "x"), recs('x', "c", "y", "c", ""), flag('0')), base},
		{"two records", join(recs('x', "uid", "9"), recs('x', "gid", "8"), flag('0')), but(func(h *api.Head) { h.GID = 8 })},
		{"records of no bytes behind others", join(recs('x', "uid", "9"), ext('x', ""), flag('0')), base},
		{"records of the item ahead", join(recs('x', "uid", "9"), file("a"), flag('0')), base},
		{"two global ones", join(recs('g', "uid", "9", "gid", "9"), recs('g', "gid", "8"), flag('0')), but(func(h *api.Head) { h.UID, h.GID = 9, 8 })},
		{"global ones take a global one away", join(recs('g', "uid", "9", "gid", "9"), recs('g', "gid", ""), flag('0')), but(func(h *api.Head) { h.UID = 9 })},
		{"global ones of no bytes", join(recs('g', "uid", "9"), ext('g', ""), flag('0')), but(func(h *api.Head) { h.UID = 9 })},
		{"global ones ahead of two items", join(recs('g', "uid", "9"), file("a"), flag('0')), but(func(h *api.Head) { h.UID = 9 })},
	} {
		got := last(t, c.name, c.blocks)
		if !sameEvent(got.event, Event{Kind: Item, Head: c.want}) {
			t.Errorf("P15.1: %s: %+v; want the head %+v", c.name, got.event, c.want)
		}
	}
}

// TestData asks for the bytes of Files of sizes about the ends of blocks.
func TestData(t *testing.T) {
	for _, n := range []int{0, 1, 2, 511, 512, 513, 1023, 1024, 1025, 5000} {
		all := bytes.Repeat([]byte{1, 2, 3, 0, 5, 6, 7}, n)[:n]
		blocks := padded(string(all))
		if n%512 != 0 {
			// What is behind the Size bytes needn't be noughts.
			end := blocks[len(blocks)-1]
			copy(end[n%512:], bytes.Repeat([]byte{9}, 512))
		}
		l := join(one(made(head.Raw{Flag: '0', Name: "n", Size: int64(n)})), blocks, file("b"))
		var got []byte
		for _, a := range follow(t, "a File", l) {
			got = append(got, a.event.Data...)
		}
		if !bytes.Equal(got, all) {
			t.Errorf("P15.1: Data of %d bytes: %d others", n, len(got))
		}
	}
	// A File's blocks of noughts are its Data, and no end; headers in it are none.
	l := join(one(made(head.Raw{Flag: '7', Name: "n", Size: 2000})), one(zeros), one(zeros), file("x"), ext('L', "n"))
	follow(t, "a File of noughts and headers", l)
}

// TestLarge asks for payloads about the greatest one.
func TestLarge(t *testing.T) {
	for _, flag := range []byte("LKxg") {
		for _, n := range []int64{65535, 65536, 65537, 65536 * 2, math.MaxInt64} {
			want := api.Fine
			if n > 65536 {
				want = api.Large
			}
			d := New()
			if _, code := d.Block(made(head.Raw{Flag: flag, Name: "a", Size: n})); code != want {
				t.Errorf("P15.1: %c of %d bytes: %v; want %v", flag, n, code, want)
			}
			fault := api.Fault{Code: api.Short, Block: 1}
			if want != api.Fine {
				fault = api.Fault{Code: api.Large}
			}
			if d.Stop(false) != fault {
				t.Errorf("P15.2: %c of %d bytes: Stop: %v; want %v", flag, n, d.Stop(false), fault)
			}
		}
	}
	full := strings.Repeat("n", api.MaxExt)
	// The length's digits, path=, and what parts them.
	value := strings.Repeat("v", api.MaxExt-len("65536 path=\n"))
	l := join(ext('L', full), ext('K', full), recs('x', "path", value), recs('g', "aaaa", value))
	got := follow(t, "all as great as can be", join(l, one(made(head.Raw{Flag: '2', Name: "n"}))))
	most := int64(0)
	for _, a := range got {
		most = max(most, a.held)
	}
	if most > 4*65536 || most < 4*65536-1024 {
		t.Errorf("P15.4: Held at most %d", most)
	}
	if end := got[len(got)-1]; end.held != int64(len("aaaa")+len(value)) || end.event.Head.Name != value || end.event.Head.Link != full {
		t.Errorf("P15.3: Held behind the item: %d", end.held)
	}
}

func TestHeld(t *testing.T) {
	for _, c := range []struct {
		name   string
		blocks [][]byte
		want   []int64
	}{
		{"a long name", ext('L', "long\x00"), []int64{0, 4}},
		{"a long link of three blocks", ext('K', strings.Repeat("n", 1025)), []int64{0, 512, 1024, 1025}},
		{"another one", join(ext('K', "abc"), ext('K', "d")), []int64{0, 3, 3, 1}},
		{"both", join(ext('K', "abc"), ext('L', "d"), file("a")), []int64{0, 3, 3, 4, 0}},
		{"records with an empty Value", join(recs('x', "uid", "", "c", "ab"), file("a")), []int64{0, 6, 0}},
		{"records of a key twice", recs('x', "c", "abcdef", "c", "ab"), []int64{0, 3}},
		{"records of a key twice, empty behind", recs('x', "c", "abcdef", "c", ""), []int64{0, 1}},
		{"other records", join(recs('x', "uid", "77"), ext('x', "")), []int64{0, 5, 0}},
		{"global ones", join(recs('g', "uid", "77"), file("a"), recs('g', "c", "ab"), recs('g', "uid", "")), []int64{0, 5, 5, 5, 8, 8, 3}},
		{"global ones at the end", join(recs('g', "uid", "77"), one(zeros), one(zeros), one(zeros)), []int64{0, 5, 5, 0, 0}},
		{"behind a fault", join(recs('g', "uid", "77"), ext('L', "abc"), one(make([]byte, 512)), file("a"), file("a")), []int64{0, 5, 5, 8, 8, 0, 0}},
		{"a payload behind a fault", ext('x', strings.Repeat("n", 1025)), []int64{0, 512, 1024, 0}},
		{"a File's Data", join(one(made(head.Raw{Flag: '0', Name: "a", Size: 600})), padded("a"), padded("b")), []int64{0, 0, 0}},
	} {
		for i, a := range follow(t, c.name, c.blocks) {
			if a.held != c.want[i] {
				t.Errorf("P15.3: %s, block %d: Held %d; want %d", c.name, i, a.held, c.want[i])
			}
		}
	}
}

// wrongBlocks are no blocks.
func wrongBlocks() [][]byte {
	return [][]byte{nil, {}, make([]byte, 1), make([]byte, 511), make([]byte, 513), make([]byte, 1024)}
}

// TestWrongBlocks lays what is no block between any two.
func TestWrongBlocks(t *testing.T) {
	d := New()
	blocks := join(recs('g', "uid", "9"), ext('L', strings.Repeat("n", 600)), one(made(head.Raw{Flag: '0', Name: "a", Size: 600})), padded(strings.Repeat("b", 600)), one(zeros), one(zeros), one(zeros))
	for i, want := range walk(blocks) {
		for _, b := range wrongBlocks() {
			if e, code := d.Block(b); !sameEvent(e, Event{}) || code != api.Arg {
				t.Errorf("P15.1: Block of %d bytes ahead of block %d: %v, %v", len(b), i, e, code)
			}
		}
		e, code := d.Block(blocks[i])
		holds(t, d, e, code, want, "between what is no block")
	}
	for _, b := range wrongBlocks() {
		if _, code := d.Block(b); code != api.Arg {
			t.Errorf("P15.1: Block of %d bytes behind the end: %v", len(b), code)
		}
	}
	d = New()
	d.Block(ext('L', "")[0])
	for _, b := range wrongBlocks() {
		if _, code := d.Block(b); code != api.Arg || d.Fault() != (api.Fault{Code: api.Name}) {
			t.Errorf("P15.1: Block of %d bytes behind a fault: %v, %v", len(b), code, d.Fault())
		}
	}
}

func TestNilDecoder(t *testing.T) {
	var d *Decoder
	for _, b := range append(wrongBlocks(), zeros, file("a")[0]) {
		if e, code := d.Block(b); !sameEvent(e, Event{}) || code != api.Nil {
			t.Errorf("P15.1: Block of a nil decoder: %v, %v", e, code)
		}
	}
	stays(t, d, answer{stop: api.Fault{Code: api.Nil}, rest: api.Fault{Code: api.Nil}}, "a nil decoder")
}

func TestNotMade(t *testing.T) {
	d := new(Decoder)
	stays(t, d, atFirst(), "a decoder that wasn't made")
	blocks := join(recs('g', "uid", "9"), ext('L', "n"), file("a"), one(zeros), one(zeros))
	for i, want := range walk(blocks) {
		e, code := d.Block(blocks[i])
		holds(t, d, e, code, want, "a decoder that wasn't made")
	}
}

// parts are what runs are made of, such that each meets each.
func parts() [][][]byte {
	raw := head.Raw{Mark: head.Posix, Flag: '0', Name: "n", Prefix: "p"}
	large := raw
	large.Size = 513
	half := raw
	half.Name = ""
	return [][][]byte{
		file("a"), file("d/"), one(made(raw)), one(made(half)), one(made(large)),
		one(made(head.Raw{Mark: head.Gnu, Flag: '1', Name: "l", Link: "to"})),
		one(made(head.Raw{Mark: head.Gnu, Flag: '2', Name: "s"})),
		one(made(head.Raw{Mark: head.Gnu, Flag: '5', Name: "d"})),
		one(zeros), padded("no header"),
		ext('L', "long"), ext('K', "link"), ext('x', ""), ext('g', ""),
		recs('x', "path", "x", "c", ""), recs('x', "linkpath", "x", "size", "1"),
		recs('g', "path", "g", "c", "g"), recs('g', "path", "", "size", "0"),
	}
}

// TestShortRuns goes through all runs of at most three parts.
func TestShortRuns(t *testing.T) {
	all := parts()
	for _, a := range all {
		for _, b := range all {
			follow(t, "two parts", join(a, b))
			for _, c := range all {
				follow(t, "three parts", join(a, b, c))
			}
		}
	}
}

// maker makes blocks up.
type maker struct{ dice *rand.Rand }

func (m maker) pick(l ...string) string { return l[m.dice.Intn(len(l))] }

func (m maker) raw() head.Raw {
	r := head.Raw{
		Mark: m.dice.Intn(3), Flag: m.pick("0", "0", "0", "0", "1", "2", "3", "4", "5", "6", "7", "\x00")[0],
		Name: m.pick("n", "n", "a/b", "d/", "/", "", strings.Repeat("n", 100)), Link: m.pick("to", "to", "to", ""),
		User: m.pick("", "u"), Group: m.pick("", "g"), Mode: m.dice.Int63n(5000), UID: m.dice.Int63n(5), Time: m.dice.Int63n(9) - 4,
		Major: m.dice.Int63n(3), Minor: m.dice.Int63n(3),
	}
	if m.dice.Intn(4) == 0 {
		r.Prefix = "p"
	}
	if r.Flag == '0' || m.dice.Intn(20) == 0 {
		r.Size = []int64{0, 0, 1, 511, 512, 513, 1100}[m.dice.Intn(7)]
	}
	return r
}

func (m maker) records() string {
	var l []api.Pair
	for range m.dice.Intn(6) {
		key := m.pick("path", "linkpath", "uname", "uid", "gid", "mtime", "c", "d", "e")
		value := m.pick("1", "2", "3", "", strings.Repeat("4", 8))
		l = append(l, api.Pair{Key: key, Value: value})
	}
	if m.dice.Intn(6) == 0 {
		l = append(l, api.Pair{Key: "size", Value: m.pick("0", "1", "600", "")})
	}
	b, _ := pax.Print(l)
	return string(b)
}

func (m maker) part() [][]byte {
	switch m.dice.Intn(12) {
	case 0, 1:
		return ext('x', m.records())
	case 2:
		return ext('g', m.records())
	case 3:
		return ext('L', m.pick("long", "long/", "n\x00m", strings.Repeat("n", 700), "\x00"))
	case 4:
		return ext('K', m.pick("link", "link/", "n\x00m", strings.Repeat("n", 512)))
	case 5:
		if m.dice.Intn(2) == 0 {
			return one(zeros)
		}
		return join(one(zeros), one(zeros))
	}
	r := m.raw()
	var l [][]byte
	for range (r.Size + 511) / 512 {
		b := make([]byte, 512)
		m.dice.Read(b)
		l = append(l, b)
	}
	return join(one(made(r)), l)
}

// spoil one byte, and seal the block again every other time; or leave a block out, or take it twice.
func (m maker) spoil(l [][]byte) [][]byte {
	i := m.dice.Intn(len(l))
	switch m.dice.Intn(6) {
	case 0:
		b := slices.Clone(l[i])
		b[m.dice.Intn(512)] = byte(m.dice.Intn(256))
		l[i] = b
	case 1:
		at := []int{100, 108, 116, 124, 136, 156, 257, 329, 337, 345}[m.dice.Intn(10)]
		l[i] = spoilt(l[i], at+m.dice.Intn(8), m.pick("9", "\xff", "\x00", "\x80", "7"))
	case 2:
		return slices.Delete(l, i, i+1)
	case 3:
		return slices.Insert(l, i, l[i])
	}
	return l
}

func TestMadeUp(t *testing.T) {
	m := maker{rand.New(rand.NewSource(15))}
	met := map[api.Code]int{}
	ends := 0
	for range 4000 {
		l := m.part()
		for range m.dice.Intn(8) {
			l = join(l, m.part())
		}
		if len(l) > 1 {
			l = m.spoil(l)
		}
		end := last(t, "made up", l)
		met[end.fault.Code]++
		if end.stop == (api.Fault{}) {
			ends++
		}
	}
	for _, code := range []api.Code{api.Fine, api.Sum, api.Numeral, api.Flag, api.Name, api.Size, api.Record, api.Large, api.Dangling} {
		if met[code] == 0 {
			t.Errorf("no run comes to %v", code)
		}
	}
	if ends == 0 {
		t.Errorf("no run comes to the end")
	}
}

// TestHandedIn writes on blocks behind the calls they were handed to.
func TestHandedIn(t *testing.T) {
	blocks := join(
		recs('g', "uid", "9", "comment", "c"), ext('L', strings.Repeat("n", 1030)), ext('K', "link"),
		recs('x', "gname", "g", "extra", strings.Repeat("e", 600)), one(made(head.Raw{Mark: head.Gnu, Flag: '0', Name: "a", User: "u", Size: 600})), padded(strings.Repeat("d", 600)),
		file("b"), one(zeros), one(zeros),
	)
	d := New()
	var told []Event
	want := walk(blocks)
	for i, b := range blocks {
		own := slices.Clone(b)
		e, code := d.Block(own)
		if !bytes.Equal(own, b) {
			t.Errorf("R4: block %d was changed", i)
		}
		for j := range own {
			own[j] = 'z'
		}
		holds(t, d, e, code, want[i], "blocks that are written on")
		told = append(told, e)
	}
	for i, e := range told {
		if !sameEvent(e, want[i].event) {
			t.Errorf("R4: what was told of block %d was changed with it", i)
		}
	}
}

// spend writes on all that a list has room for.
func spend[T any](l []T, x T) {
	l = l[:cap(l)]
	for i := range l {
		l[i] = x
	}
}

// TestTold writes on what was told, and looks at what is told behind it.
func TestTold(t *testing.T) {
	blocks := join(
		recs('g', "comment", "c", "vendor", "v"), file("a"), recs('x', "extra", "e"), file("b"),
		one(made(head.Raw{Flag: '0', Name: "a", Size: 1200})), padded(strings.Repeat("d", 1200)), file("c"),
	)
	d := New()
	for i, want := range walk(blocks) {
		own := slices.Clone(blocks[i])
		e, code := d.Block(own)
		holds(t, d, e, code, want, "what was told is written on")
		spend(e.Head.Extra, api.Pair{Key: "z", Value: "z"})
		spend(e.Data, 'z')
		if !bytes.Equal(own, blocks[i]) {
			t.Errorf("R4: block %d shares memory with what was told of it", i)
		}
	}
}

// TestTwoDecoders feeds two in turns.
func TestTwoDecoders(t *testing.T) {
	one, two := join(recs('g', "uid", "9"), file("a"), file("b")), join(ext('L', "n"), file("a"), file("b"))
	d, e := New(), New()
	ofOne, ofTwo := walk(one), walk(two)
	for i := range one {
		x, code := d.Block(one[i])
		y, other := e.Block(two[i])
		holds(t, d, x, code, ofOne[i], "the first of two")
		holds(t, e, y, other, ofTwo[i], "the second of two")
	}
}

// TestManyRecords asks that payloads of as many records as there can be are read in time.
func TestManyRecords(t *testing.T) {
	var b []byte
	for i := 0; len(b) < api.MaxExt-8; i++ {
		key := string([]byte{byte('a' + i*7%26), byte('a' + i/26%26), byte('a' + i/676%26)})
		b = append(b, "8 "+key+"=v\n"...)
	}
	follow(t, "many records", join(ext('x', string(b)), file("a"), ext('g', string(b)), file("b")))
}
