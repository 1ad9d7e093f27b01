package over

import (
	"fmt"
	"math"
	"math/rand"
	"reflect"
	"slices"
	"sort"
	"strings"
	"testing"

	"oakum/api"
	"oakum/pax"
)

func pair(key, value string) api.Pair { return api.Pair{Key: key, Value: value} }

// list makes pairs of keys and values that take turns.
func list(texts ...string) []api.Pair {
	var l []api.Pair
	for i := 0; i+1 < len(texts); i += 2 {
		l = append(l, pair(texts[i], texts[i+1]))
	}
	return l
}

func sameList(a, b []api.Pair) bool {
	return len(a) == len(b) && slices.Equal(a, b)
}

// laid is what Lay promises, by the chapter's words: of each key what the last of its pairs says, in order.
func laid(l, more []api.Pair) []api.Pair {
	values := map[string]string{}
	for _, p := range slices.Concat(l, more) {
		if p.Value == "" {
			delete(values, p.Key)
		} else {
			values[p.Key] = p.Value
		}
	}
	var keys []string
	for key := range values {
		keys = append(keys, key)
	}
	sort.Slice(keys, func(i, j int) bool { return lessBytes(keys[i], keys[j]) })
	var o []api.Pair
	for _, key := range keys {
		o = append(o, pair(key, values[key]))
	}
	return o
}

// lessBytes holds texts against each other byte by byte, the shorter one ahead where it is the other's beginning.
func lessBytes(a, b string) bool {
	for i := 0; i < len(a) && i < len(b); i++ {
		if a[i] != b[i] {
			return a[i] < b[i]
		}
	}
	return len(a) < len(b)
}

// isOverlay asks for the chapter's words alone, not whether the pairs are right.
func isOverlay(l []api.Pair) bool {
	for i, p := range l {
		if p.Value == "" || i > 0 && !lessBytes(l[i-1].Key, p.Key) {
			return false
		}
	}
	return true
}

func allPairsRight(l []api.Pair) bool {
	for _, p := range l {
		if !pax.Right(p) {
			return false
		}
	}
	return true
}

func TestLay(t *testing.T) {
	for _, c := range []struct {
		what          string
		l, more, want []api.Pair
	}{
		{"nothing over nothing", nil, nil, nil},
		{"empty lists", []api.Pair{}, []api.Pair{}, nil},
		{"nothing over two", list("a", "1", "b", "2"), nil, list("a", "1", "b", "2")},
		{"two over nothing", nil, list("b", "2", "a", "1"), list("a", "1", "b", "2")},
		{"the example", list("path", "a"), list("path", ""), nil},
		{"away, the first", list("a", "1", "b", "2", "c", "3"), list("a", ""), list("b", "2", "c", "3")},
		{"away, in the midst", list("a", "1", "b", "2", "c", "3"), list("b", ""), list("a", "1", "c", "3")},
		{"away, the last", list("a", "1", "b", "2", "c", "3"), list("c", ""), list("a", "1", "b", "2")},
		{"away, all", list("a", "1", "b", "2"), list("b", "", "a", ""), nil},
		{"away, what isn't there", list("b", "2"), list("a", "", "c", "", "bb", "", "", ""), list("b", "2")},
		{"away over nothing", nil, list("a", ""), nil},
		{"in its place, the first", list("a", "1", "b", "2", "c", "3"), list("a", "x"), list("a", "x", "b", "2", "c", "3")},
		{"in its place, in the midst", list("a", "1", "b", "2", "c", "3"), list("b", "x"), list("a", "1", "b", "x", "c", "3")},
		{"in its place, the last", list("a", "1", "b", "2", "c", "3"), list("c", "x"), list("a", "1", "b", "2", "c", "x")},
		{"one more ahead of all", list("b", "2", "d", "4"), list("a", "x"), list("a", "x", "b", "2", "d", "4")},
		{"one more between two", list("b", "2", "d", "4"), list("c", "x"), list("b", "2", "c", "x", "d", "4")},
		{"one more behind all", list("b", "2", "d", "4"), list("e", "x"), list("b", "2", "d", "4", "e", "x")},
		{"a key twice in more", list("b", "2"), list("a", "1", "a", "3"), list("a", "3", "b", "2")},
		{"a key twice in more, last away", list("b", "2"), list("b", "3", "b", ""), nil},
		{"a key twice in more, first away", list("b", "2"), list("b", "", "b", "3"), list("b", "3")},
		{"a key twice in l", list("a", "1", "a", "2"), nil, list("a", "2")},
		{"a key twice in l, apart", list("a", "1", "b", "2", "a", "3"), list("b", "4"), list("a", "3", "b", "4")},
		{"a key twice in l, last away", list("a", "1", "a", ""), nil, nil},
		{"a key twice in l, first away", list("a", "", "a", "1"), nil, list("a", "1")},
		{"an empty Value in l", list("a", "", "b", "2"), list("c", "3"), list("b", "2", "c", "3")},
		{"an empty Value in l ahead of its key in more", list("a", ""), list("a", "1"), list("a", "1")},
		{"keys of l that fall", list("c", "3", "b", "2", "a", "1"), nil, list("a", "1", "b", "2", "c", "3")},
		{"keys of l that fall, and more", list("c", "3", "a", "1"), list("b", "2", "a", ""), list("b", "2", "c", "3")},
		{"a key that is another's beginning", list("path", "p"), list("pat", "1", "path.x", "2", "path\x00", "3", "p", "4"),
			list("p", "4", "pat", "1", "path", "p", "path\x00", "3", "path.x", "2")},
		{"a beginning is another key", list("path", "p", "pathx", "q"), list("path", ""), list("pathx", "q")},
		{"bytes above 127", list("\xc3\xa9", "1", "z", "2"), list("\x7f", "3", "\xff", "4", "\x80", "5", "\u20ac", "6"),
			list("z", "2", "\x7f", "3", "\x80", "5", "\xc3\xa9", "1", "\u20ac", "6", "\xff", "4")},
		{"capitals and blanks", list("b", "1", "B", "2"), list(" ", "3", "_", "4"), list(" ", "3", "B", "2", "_", "4", "b", "1")},
		{"an empty key", list("a", "1", "", "2"), list("b", "3"), list("", "2", "a", "1", "b", "3")},
		{"pairs that aren't right", list("uid", "x"), list("a=b", "1", "mtime", "y", "k", "\xff", "a\x00", "2"),
			list("a\x00", "2", "a=b", "1", "k", "\xff", "mtime", "y", "uid", "x")},
		{"a nought is no empty Value", list("a", "1"), list("a", "\x00"), list("a", "\x00")},
	} {
		l, more := slices.Clone(c.l), slices.Clone(c.more)
		if got := Lay(l, more); !sameList(got, c.want) {
			t.Errorf("P8.2: Lay, %s: %q over %q: %q, not %q", c.what, c.more, c.l, got, c.want)
		}
		if want := laid(c.l, c.more); !sameList(c.want, want) {
			t.Errorf("the table, %s: %q, by the chapter's words %q", c.what, c.want, want)
		}
		if !sameList(l, c.l) || !sameList(more, c.more) {
			t.Errorf("R4: Lay, %s, changed a list that was handed in: %q, %q", c.what, l, more)
		}
	}
}

// eachList goes through all lists of at most n of these pairs.
func eachList(pairs []api.Pair, n int, do func([]api.Pair)) {
	var grow func(l []api.Pair)
	grow = func(l []api.Pair) {
		do(l)
		if len(l) == n {
			return
		}
		for _, p := range pairs {
			grow(append(slices.Clip(l), p))
		}
	}
	grow(nil)
}

func TestLayAllShortLists(t *testing.T) {
	pairs := []api.Pair{pair("a", "1"), pair("a", "2"), pair("a", ""), pair("aa", "3"), pair("aa", ""), pair("\xc3\xa9", "4"), pair("b", "")}
	eachList(pairs, 3, func(l []api.Pair) {
		eachList(pairs, 3, func(more []api.Pair) { checkLay(t, l, more) })
	})
}

// checkLay asks for P8.2, P8.3 and R4 of one call.
func checkLay(t *testing.T, l, more []api.Pair) {
	t.Helper()
	kept, keptMore := slices.Clone(l), slices.Clone(more)
	got := Lay(l, more)
	if want := laid(kept, keptMore); !sameList(got, want) {
		t.Fatalf("P8.2: Lay(%q, %q): %q, not %q", l, more, got, want)
	}
	if !isOverlay(got) {
		t.Fatalf("P8.2: Lay(%q, %q): %q is no overlay", l, more, got)
	}
	if Right(got) != allPairsRight(got) {
		t.Fatalf("P8.1: Right of what is laid, %q: %v", got, Right(got))
	}
	if twice := Lay(got, more); !sameList(twice, got) {
		t.Fatalf("P8.3: %q laid twice over %q: %q, once: %q", more, l, twice, got)
	}
	if steps := Lay(Lay(nil, l), more); !sameList(steps, got) {
		t.Fatalf("P8.2: Lay(%q, %q): %q, but over what is left of l: %q", l, more, got, steps)
	}
	if !slices.Equal(l, kept) || !slices.Equal(more, keptMore) {
		t.Fatalf("R4: Lay changed what was handed in: %q, %q, were %q, %q", l, more, kept, keptMore)
	}
}

// What is laid twice over any overlay is as if it were laid once, also where the second time is by one list.
func TestLayTwice(t *testing.T) {
	o := list("a", "1", "m", "2", "z", "3")
	for _, more := range [][]api.Pair{nil, list("m", ""), list("m", "", "m", "4"), list("m", "4", "m", ""), list("n", "5", "a", "6", "n", "7"), list("", "8", "\xff", "9", "z", "")} {
		once := Lay(o, more)
		if twice := Lay(once, more); !sameList(once, twice) {
			t.Errorf("P8.3: %q laid twice: %q, once: %q", more, twice, once)
		}
		if double := Lay(o, slices.Concat(more, more)); !sameList(once, double) {
			t.Errorf("P8.3: %q laid as a list of both: %q, once: %q", more, double, once)
		}
	}
}

func TestLayNewMemory(t *testing.T) {
	// Room behind the lists would take what is appended to them.
	l := append(make([]api.Pair, 0, 16), list("a", "1", "c", "3")...)
	more := append(make([]api.Pair, 0, 16), list("b", "2")...)
	behind, behindMore := slices.Clone(l[:16]), slices.Clone(more[:16])
	for _, call := range []func() []api.Pair{
		func() []api.Pair { return Lay(l, more) }, func() []api.Pair { return Lay(l, nil) }, func() []api.Pair { return Lay(nil, more) },
		func() []api.Pair { return Lay(l, l) }, func() []api.Pair { return Lay(l, list("c", "")) },
	} {
		got := call()
		again := call()
		for i := range got {
			got[i] = pair("spoilt", "spoilt")
		}
		_ = append(got, pair("spoilt", "spoilt"))
		if !slices.Equal(l[:16], behind) || !slices.Equal(more[:16], behindMore) {
			t.Fatalf("R4: what Lay told shares memory with what was handed in: %q, %q", l[:16], more[:16])
		}
		if slices.Contains(again, pair("spoilt", "spoilt")) {
			t.Fatalf("R4: two answers of Lay share memory: %q", again)
		}
	}
}

func TestGet(t *testing.T) {
	o := list("comment", "c", "p", "0", "path", "p", "path.x", "q", "\xc3\xa9", "1")
	odd := list("z", "1", "b", "2", "z", "3", "b", "", "a", "", "a", "4", "", "5", "n", "\x00")
	for _, c := range []struct {
		l          []api.Pair
		key, value string
		ok         bool
	}{
		{nil, "path", "", false}, {[]api.Pair{}, "path", "", false}, {nil, "", "", false},
		{o, "comment", "c", true}, {o, "path", "p", true}, {o, "p", "0", true}, {o, "path.x", "q", true}, {o, "\xc3\xa9", "1", true},
		{o, "", "", false}, {o, "pat", "", false}, {o, "paths", "", false}, {o, "PATH", "", false}, {o, "path\x00", "", false}, {o, "c", "", false}, {o, "\xc3", "", false}, {o, "\xff", "", false}, {o, "q", "", false},
		{odd, "z", "1", true}, {odd, "b", "2", true}, {odd, "a", "", true}, {odd, "", "5", true}, {odd, "n", "\x00", true}, {odd, "c", "", false},
		{list("uid", "x"), "uid", "x", true}, {list("a=b", "1"), "a=b", "1", true}, {list("a=b", "1"), "a", "", false},
	} {
		kept := slices.Clone(c.l)
		if value, ok := Get(c.l, c.key); value != c.value || ok != c.ok {
			t.Errorf("P8.1: Get(%q, %q): %q, %v, not %q, %v", c.l, c.key, value, ok, c.value, c.ok)
		}
		if !slices.Equal(c.l, kept) {
			t.Errorf("R4: Get changed the list: %q, was %q", c.l, kept)
		}
	}
}

func TestBytes(t *testing.T) {
	for _, c := range []struct {
		l    []api.Pair
		want int64
	}{
		{nil, 0}, {[]api.Pair{}, 0}, {list("", ""), 0}, {list("a", ""), 1}, {list("", "bc"), 2}, {list("path", "a"), 5},
		{list("a", "1", "a", "1", "a", ""), 5}, {list("b", "1", "a", "\x00\x00"), 5}, {list("\u20ac", "\xc3\xa9"), 5}, {list("\xff", "\xfe="), 3},
		{list(strings.Repeat("k", 300), strings.Repeat("v", 70000), "x", "y"), 70302},
	} {
		if got := Bytes(c.l); got != c.want {
			t.Errorf("P8.1: Bytes of %.60q: %d, not %d", c.l, got, c.want)
		}
	}
}

// wrongPairs aren't right (pax), of known and of other keys.
func wrongPairs() []api.Pair {
	return list("path", "a\x00b", "linkpath", "\x00", "uname", "\x00u", "gname", "g\x00", "path", "\xff", "gname", "\xc3",
		"uid", "x", "uid", "-1", "uid", "01", "uid", " 1", "gid", "1.0", "gid", "9223372036854775808", "size", "+1", "size", "1\n", "mtime", "x", "mtime", "1.", "mtime", "1.0000000000", "mtime", "9223372036854775808",
		"", "a", "=", "a", "a=b", "a", "a\x00", "a", "\xff", "a", "\xc3", "a", "a", "\xff", "comment", "a\x80")
}

func rightOverlays() [][]api.Pair {
	return [][]api.Pair{
		nil, {}, list("a", "1"), list("a", "\x00"), list(" ", " "), list("\n", "\n"), list("a", "="), list("a", "1", "b", "1"),
		list("a", "1", "aa", "1", "aaa", "1", "ab", "1"), list("path", "p", "path ", "q", "path.x", "r", "pathx", "s"),
		list("B", "1", "a", "1", "z", "1", "\x7f", "1", "\u0080", "1", "\xc3\xa9", "1", "\u20ac", "1", "\ufffd", "1", "\U0001f600", "1"),
		list("gid", "0", "gname", "g", "linkpath", "l", "mtime", "-1.5", "path", "p", "size", "9223372036854775807", "uid", "1", "uname", "u"),
	}
}

// wrongOverlays have pairs that are right, each, but are no overlays.
func wrongOverlays() [][]api.Pair {
	return [][]api.Pair{
		list("b", "1", "a", "1"), list("a", "1", "c", "1", "b", "1"), list("aa", "1", "a", "1"), list("path.x", "1", "path", "p"),
		list("\xc3\xa9", "1", "z", "1"), list("\u20ac", "1", "\xc3\xa9", "1"), list("a", "1", "B", "1"),
		list("a", "1", "a", "1"), list("a", "1", "a", "2"), list("a", "1", "b", "1", "b", "1"), list("a", "1", "b", "1", "a", "1"),
		list("a", ""), list("path", ""), list("uid", ""), list("mtime", ""), list("a", "", "b", "1"), list("a", "1", "b", ""), list("a", "1", "b", "", "c", "1"),
	}
}

// around are overlays that have p first, in the midst, last, and alone, as far as its key lets it.
func around(p api.Pair) [][]api.Pair {
	low, high := pair("\x01", "1"), pair("\U0010ffff", "1")
	return [][]api.Pair{{p}, {p, high}, {low, p}, {low, p, high}}
}

func TestRight(t *testing.T) {
	for _, l := range rightOverlays() {
		if !Right(l) {
			t.Errorf("P8.1: Right of %q: false", l)
		}
	}
	for _, l := range wrongOverlays() {
		if Right(l) {
			t.Errorf("P8.1: Right of %q, which is no overlay: true", l)
		}
	}
	for _, p := range wrongPairs() {
		for _, l := range around(p) {
			if Right(l) {
				t.Errorf("P8.1: Right of %q with a pair that isn't right: true", l)
			}
		}
	}
}

// full is a head of which every field tells something, so that what is lost shows.
func full() api.Head {
	return api.Head{Kind: api.Sym, Name: "n", Link: "l", Mode: 0o644, UID: 11, GID: 12, Size: 13, Time: api.Time{Sec: 14, Nano: 15},
		User: "u", Group: "g", Major: 16, Minor: 17, Extra: list("old", "o", "older", "p")}
}

// but is full with a change, and these pairs as its Extra.
func but(extra []api.Pair, change func(*api.Head)) api.Head {
	h := full()
	h.Extra = extra
	change(&h)
	return h
}

func sameHead(a, b api.Head) bool {
	extra := sameList(a.Extra, b.Extra)
	a.Extra, b.Extra = nil, nil
	return extra && reflect.DeepEqual(a, b)
}

func TestApply(t *testing.T) {
	for _, c := range []struct {
		what string
		l    []api.Pair
		want api.Head
	}{
		{"nothing", nil, but(nil, func(*api.Head) {})},
		{"an empty list", []api.Pair{}, but(nil, func(*api.Head) {})},
		{"path", list("path", "a/"), but(nil, func(h *api.Head) { h.Name = "a/" })},
		{"linkpath", list("linkpath", "b\n"), but(nil, func(h *api.Head) { h.Link = "b\n" })},
		{"uname", list("uname", "\u20ac"), but(nil, func(h *api.Head) { h.User = "\u20ac" })},
		{"gname", list("gname", " "), but(nil, func(h *api.Head) { h.Group = " " })},
		{"uid", list("uid", "1073741824"), but(nil, func(h *api.Head) { h.UID = 1 << 30 })},
		{"uid 0", list("uid", "0"), but(nil, func(h *api.Head) { h.UID = 0 })},
		{"gid", list("gid", "9223372036854775807"), but(nil, func(h *api.Head) { h.GID = math.MaxInt64 })},
		{"size", list("size", "8589934592"), but(nil, func(h *api.Head) { h.Size = 1 << 33 })},
		{"mtime", list("mtime", "-0.5"), but(nil, func(h *api.Head) { h.Time = api.Time{Sec: -1, Nano: 500000000} })},
		{"mtime, whole", list("mtime", "7"), but(nil, func(h *api.Head) { h.Time = api.Time{Sec: 7} })},
		{"mtime, not the shortest text", list("mtime", "-0.000000000"), but(nil, func(h *api.Head) { h.Time = api.Time{} })},
		{"mtime, the least", list("mtime", "-9223372036854775808"), but(nil, func(h *api.Head) { h.Time = api.Time{Sec: math.MinInt64} })},
		{"another key", list("comment", "c"), but(list("comment", "c"), func(*api.Head) {})},
		{"keys that look known", list("GID", "1", "Path", "2", "gid ", "x", "path.x", "4", "pathx", "5", "ui", "6", "uidx", "7"),
			but(list("GID", "1", "Path", "2", "gid ", "x", "path.x", "4", "pathx", "5", "ui", "6", "uidx", "7"), func(*api.Head) {})},
		{"keys of the old list", list("old", "x"), but(list("old", "x"), func(*api.Head) {})},
		{"names of fields", list("atime", "1", "group", "2", "kind", "3", "link", "4", "major", "5", "minor", "6", "mode", "7", "name", "8", "time", "9", "user", "0"),
			but(list("atime", "1", "group", "2", "kind", "3", "link", "4", "major", "5", "minor", "6", "mode", "7", "name", "8", "time", "9", "user", "0"), func(*api.Head) {})},
		{"all eight, and others between", list("a", "\x00", "gid", "1", "gname", "G", "h", "x", "linkpath", "L", "mtime", "2.25", "path", "P", "path.x", "y", "size", "3", "uid", "4", "uname", "U", "z", "="),
			api.Head{Kind: api.Sym, Name: "P", Link: "L", Mode: 0o644, UID: 4, GID: 1, Size: 3, Time: api.Time{Sec: 2, Nano: 250000000}, User: "U", Group: "G", Major: 16, Minor: 17,
				Extra: list("a", "\x00", "h", "x", "path.x", "y", "z", "=")}},
	} {
		h, l := full(), slices.Clone(c.l)
		got, code := Apply(h, l)
		if code != api.Fine || !sameHead(got, c.want) {
			t.Errorf("P8.2: Apply, %s: %+v, %v, not %+v", c.what, got, code, c.want)
		}
		if !sameHead(h, full()) || !slices.Equal(l, c.l) {
			t.Errorf("R4: Apply, %s, changed what was handed in: %+v, %q", c.what, h, l)
		}
	}
}

// The head needn't be right: Apply tells what the overlay says, all else as in the head.
func TestApplyOddHeads(t *testing.T) {
	l := list("k", "v", "path", "p")
	for _, h := range []api.Head{
		{}, {Kind: -1, Name: "\x00\xff", Link: "\xff", Mode: -1, UID: math.MinInt64, GID: -2, Size: -3, Time: api.Time{Sec: 1, Nano: -1}, Major: -4, Minor: math.MaxInt64},
		{Kind: 99, Extra: list("b", "1", "a", "", "path", "q", "uid", "x")}, {Kind: api.File, Extra: []api.Pair{}},
	} {
		want := h
		want.Name, want.Extra = "p", list("k", "v")
		if got, code := Apply(h, l); code != api.Fine || !sameHead(got, want) {
			t.Errorf("P8.2: Apply of %+v: %+v, %v", h, got, code)
		}
	}
}

func TestApplyForm(t *testing.T) {
	wrong := wrongOverlays()
	for _, p := range wrongPairs() {
		wrong = append(wrong, around(p)...)
	}
	for _, l := range wrong {
		h, kept := full(), slices.Clone(l)
		if got, code := Apply(h, l); code != api.Form || !reflect.DeepEqual(got, api.Head{}) {
			t.Errorf("P8.2: Apply of %q, which isn't right: %+v, %v", l, got, code)
		}
		if !sameHead(h, full()) || !slices.Equal(l, kept) {
			t.Errorf("R4: Apply changed what was handed in: %+v, %q", h, l)
		}
	}
}

func TestApplyNewMemory(t *testing.T) {
	h := full()
	// Room behind the lists would take what is appended to them.
	h.Extra = append(make([]api.Pair, 0, 16), h.Extra...)
	l := append(make([]api.Pair, 0, 16), list("a", "1", "b", "2")...)
	keptExtra, kept := slices.Clone(h.Extra[:16]), slices.Clone(l[:16])
	got, _ := Apply(h, l)
	again, _ := Apply(h, l)
	for i := range got.Extra {
		got.Extra[i] = pair("spoilt", "spoilt")
	}
	_ = append(got.Extra, pair("spoilt", "spoilt"))
	if !slices.Equal(h.Extra[:16], keptExtra) || !slices.Equal(l[:16], kept) {
		t.Errorf("R4: what Apply told shares memory with what was handed in: %q, %q", h.Extra[:16], l[:16])
	}
	if !sameList(again.Extra, list("a", "1", "b", "2")) {
		t.Errorf("R4: two answers of Apply share memory: %q", again.Extra)
	}
}

// someTexts have parts that stand in one another, bytes above 127, and values of known keys.
func someTexts() (keys, values []string) {
	keys = []string{"", "a", "aa", "ab", "b", "B", "p", "path", "path.x", "linkpath", "uname", "gname", "uid", "gid", "size", "mtime", "comment", "\x7f", "\xc3\xa9", "\u20ac", "\xff", "a=b", "a\x00"}
	values = []string{"", "", "0", "1", "42", "7", "1.5", "-3", "x", "a\x00", "\xff", "\xc3\xa9", "01"}
	return keys, values
}

func madeUp(r *rand.Rand) []api.Pair {
	keys, values := someTexts()
	if r.Intn(2) == 0 {
		// Keys and values of which most pairs are right, so that Apply has something to say.
		keys, values = keys[1:20], []string{"0", "1", "42", "7"}
	}
	var l []api.Pair
	for range r.Intn(12) {
		l = append(l, pair(keys[r.Intn(len(keys))], values[r.Intn(len(values))]))
	}
	return l
}

// applied is what Apply promises, by the chapter's words, of a right overlay with values that are short.
func applied(h api.Head, l []api.Pair) api.Head {
	texts := map[string]*string{"path": &h.Name, "linkpath": &h.Link, "uname": &h.User, "gname": &h.Group}
	numbers := map[string]*int64{"uid": &h.UID, "gid": &h.GID, "size": &h.Size}
	h.Extra = []api.Pair{}
	for _, p := range l {
		switch {
		case texts[p.Key] != nil:
			*texts[p.Key] = p.Value
		case numbers[p.Key] != nil:
			fmt.Sscan(p.Value, numbers[p.Key])
		case p.Key == "mtime":
			var value float64
			fmt.Sscan(p.Value, &value)
			h.Time = api.Time{Sec: int64(math.Floor(value)), Nano: int64((value - math.Floor(value)) * 1e9)}
		default:
			h.Extra = append(h.Extra, p)
		}
	}
	return h
}

func checkApply(t *testing.T, l []api.Pair) {
	t.Helper()
	got, code := Apply(full(), l)
	switch right := isOverlay(l) && allPairsRight(l); {
	case right != Right(l):
		t.Fatalf("P8.1: Right(%q): %v", l, Right(l))
	case !right && (code != api.Form || !reflect.DeepEqual(got, api.Head{})):
		t.Fatalf("P8.2: Apply of %q, which isn't right: %+v, %v", l, got, code)
	case right && (code != api.Fine || !sameHead(got, applied(full(), l))):
		t.Fatalf("P8.2: Apply of %q: %+v, %v", l, got, code)
	}
}

func checkGet(t *testing.T, l []api.Pair, key string) {
	t.Helper()
	at := slices.IndexFunc(l, func(p api.Pair) bool { return p.Key == key })
	value, ok := Get(l, key)
	if ok != (at >= 0) || ok && value != l[at].Value || !ok && value != "" {
		t.Fatalf("P8.1: Get(%q, %q): %q, %v", l, key, value, ok)
	}
}

func TestMadeUp(t *testing.T) {
	r := rand.New(rand.NewSource(8))
	keys, _ := someTexts()
	for range 20000 {
		l, more := madeUp(r), madeUp(r)
		checkLay(t, l, more)
		checkApply(t, l)
		checkApply(t, Lay(l, more))
		checkGet(t, l, keys[r.Intn(len(keys))])
		var n int
		for _, p := range l {
			n += len(p.Key + p.Value)
		}
		if Bytes(l) != int64(n) {
			t.Fatalf("P8.1: Bytes of %q: %d, not %d", l, Bytes(l), n)
		}
	}
}

// Many pairs in the worst order come to the same as few.
func TestLayMany(t *testing.T) {
	var l []api.Pair
	for i := range 5000 {
		l = append(l, pair(fmt.Sprintf("%05d", 5000-i), "v"))
	}
	got := Lay(l, nil)
	if len(got) != 5000 || !Right(got) || Bytes(got) != 30000 {
		t.Errorf("P8.2: Lay of 5000 pairs whose keys fall: %d, %v, %d bytes", len(got), Right(got), Bytes(got))
	}
	if gone := Lay(l, Lay(nil, got)); len(gone) != 5000 {
		t.Errorf("P8.2: Lay of the same 5000 again: %d", len(gone))
	}
}

// cutList reads a list of pairs from fuzzed text: pairs end in ;, a key in its first colon.
func cutList(s string) []api.Pair {
	var l []api.Pair
	for _, part := range strings.Split(s, ";") {
		key, value, _ := strings.Cut(part, ":")
		l = append(l, pair(key, value))
	}
	return l
}

func FuzzLay(f *testing.F) {
	f.Add("path:a;uid:5", "path:")
	f.Add("b:1;a:2;a:;\xff:3", "a:1;\xc3\xa9:4;:5")
	f.Add("", "")
	f.Fuzz(func(t *testing.T, a, b string) {
		l, more := cutList(a), cutList(b)
		checkLay(t, l, more)
		checkGet(t, l, more[0].Key)
		o := Lay(l, more)
		if _, code := Apply(full(), o); (code == api.Fine) != allPairsRight(o) {
			t.Fatalf("P8.2: Apply of %q: %v", o, code)
		}
		if Bytes(o) > int64(len(a)+len(b)) {
			t.Fatalf("P8.1: Bytes of %q: %d", o, Bytes(o))
		}
	})
}
