package item

import (
	"math"
	"math/rand"
	"reflect"
	"slices"
	"strings"
	"testing"

	"oakum/api"
)

func list(texts ...string) []api.Pair {
	l := []api.Pair{}
	for i := 0; i+1 < len(texts); i += 2 {
		l = append(l, api.Pair{Key: texts[i], Value: texts[i+1]})
	}
	return l
}

var kinds = []int{api.File, api.Link, api.Sym, api.Char, api.Block, api.Dir, api.Fifo}

var noKinds = []int{math.MinInt, math.MinInt32, -256, -7, -1, 0, 8, 9, '0', '5', 255, 256, 257, 262, math.MaxInt32, math.MaxInt}

// head is a right head of a kind, with as much in it as the kind may have.
func head(kind int) api.Head {
	h := api.Head{
		Kind: kind, Name: "d/name", Mode: 0o644, UID: 1, GID: 2,
		Time: api.Time{Sec: -5, Nano: 7}, User: "user", Group: "group",
		Extra: list("comment", "c", "vendor.key", "v"),
	}
	switch kind {
	case api.File:
		h.Size = 3
	case api.Link, api.Sym:
		h.Link = "to"
	case api.Char, api.Block:
		h.Major, h.Minor = 4, 5
	}
	return h
}

// deep is a copy that doesn't lean on what is tested.
func deep(x api.Item) api.Item {
	if x.Head.Extra != nil {
		x.Head.Extra = append([]api.Pair{}, x.Head.Extra...)
	}
	if x.Data != nil {
		x.Data = append([]byte{}, x.Data...)
	}
	return x
}

func TestKind(t *testing.T) {
	want := map[byte]int{
		0: api.File, '0': api.File, '7': api.File,
		'1': api.Link, '2': api.Sym, '3': api.Char, '4': api.Block, '5': api.Dir, '6': api.Fifo,
	}
	for flag := range 256 {
		if got := Kind(byte(flag)); got != want[byte(flag)] {
			t.Errorf("P9.1: Kind(%d) = %d, want %d", flag, got, want[byte(flag)])
		}
	}
	for _, flag := range []byte("xgLK") {
		if got := Kind(flag); got != 0 {
			t.Errorf("P9.1: Kind(%q) = %d, want 0", flag, got)
		}
	}
}

func TestFlag(t *testing.T) {
	for i, kind := range kinds {
		if got := Flag(kind); got != "0123456"[i] {
			t.Errorf("P9.1: Flag(%d) = %q, want %q", kind, got, "0123456"[i])
		}
		if got := Kind(Flag(kind)); got != kind {
			t.Errorf("P9.1: the kind of kind %d's flag is %d", kind, got)
		}
	}
	for _, kind := range noKinds {
		if got := Flag(kind); got != 0 {
			t.Errorf("P9.1: Flag(%d) = %q, want 0", kind, got)
		}
	}
	for kind := -1000; kind <= 1000; kind++ {
		if got := Flag(kind); (got != 0) != (1 <= kind && kind <= 7) {
			t.Errorf("P9.1: Flag(%d) = %q", kind, got)
		}
	}
}

func TestTold(t *testing.T) {
	for _, c := range []struct {
		kind int
		full string
		k    int
		name string
	}{
		{api.File, "a/", api.Dir, "a"}, // the chapter's example
		{api.File, "", api.File, ""},
		{api.File, "a", api.File, "a"},
		{api.File, "/a", api.File, "/a"},
		{api.File, "a/b", api.File, "a/b"},
		{api.File, "/", api.Dir, "/"},
		{api.File, "//", api.Dir, "/"},
		{api.File, "///", api.Dir, "//"},
		{api.File, "a//", api.Dir, "a/"},
		{api.File, "a/\x00", api.File, "a/\x00"},
		{api.Dir, "", api.Dir, ""},
		{api.Dir, "a", api.Dir, "a"},
		{api.Dir, "a/", api.Dir, "a"},
		{api.Dir, "a//", api.Dir, "a/"},
		{api.Dir, "/", api.Dir, "/"},
		{api.Dir, "//", api.Dir, "/"},
		{api.Dir, "///", api.Dir, "//"},
		{api.Dir, "/a", api.Dir, "/a"},
		{api.Dir, "\xff/", api.Dir, "\xff"},
	} {
		if k, name := Told(c.kind, c.full); k != c.k || name != c.name {
			t.Errorf("P9.1: Told(%d, %q) = %d, %q, want %d, %q", c.kind, c.full, k, name, c.k, c.name)
		}
	}
	others := slices.Concat([]int{api.Link, api.Sym, api.Char, api.Block, api.Fifo}, noKinds)
	for _, kind := range others {
		for _, full := range []string{"", "a", "a/", "a//", "/", "//", "///"} {
			if k, name := Told(kind, full); k != kind || name != full {
				t.Errorf("P9.1: Told(%d, %q) = %d, %q, want both as they are", kind, full, k, name)
			}
		}
	}
}

func TestFulls(t *testing.T) {
	for _, c := range []struct {
		name string
		want []string
	}{
		{"/", []string{"/", "//"}}, // the chapter's example
		{"", []string{"", "/"}},
		{"a", []string{"a", "a/"}},
		{"/a", []string{"/a", "/a/"}},
		{"a/b", []string{"a/b", "a/b/"}},
		{"a/", []string{"a//"}},
		{"a//", []string{"a///"}},
		{"//", []string{"///"}},
		{"\x00", []string{"\x00", "\x00/"}},
	} {
		if got := Fulls(api.Head{Kind: api.Dir, Name: c.name}); !slices.Equal(got, c.want) {
			t.Errorf("P9.1: Fulls of a Dir %q = %q, want %q", c.name, got, c.want)
		}
	}
	for _, kind := range slices.Concat(kinds, noKinds) {
		if kind == api.Dir {
			continue
		}
		for _, name := range []string{"", "a", "a/", "a//", "/", "//", "\x00"} {
			if got := Fulls(api.Head{Kind: kind, Name: name}); !slices.Equal(got, []string{name}) {
				t.Errorf("P9.1: Fulls of kind %d, %q = %q, want the Name alone", kind, name, got)
			}
		}
	}
}

func TestFullsAreNew(t *testing.T) {
	for _, kind := range []int{api.File, api.Dir} {
		h := head(kind)
		first := Fulls(h)
		want := slices.Clone(first)
		first[0] = "spoilt"
		if got := Fulls(h); !slices.Equal(got, want) || h.Name != "d/name" {
			t.Errorf("R4: Fulls of kind %d = %q behind a change of its answer, want %q", kind, got, want)
		}
	}
}

// texts are all those of at most n of the letters.
func texts(letters string, n int) []string {
	all := []string{""}
	last := all
	for range n {
		var next []string
		for _, s := range last {
			for _, b := range []byte(letters) {
				next = append(next, s+string(rune(b)))
			}
		}
		all = append(all, next...)
		last = next
	}
	return all
}

func TestFullsTell(t *testing.T) {
	fulls := texts("a/b", 6)
	for _, kind := range kinds {
		for _, name := range texts("a/b", 4) {
			h := head(kind)
			h.Name = name
			if Wrong(h) != 0 {
				continue
			}
			var want []string
			for _, full := range fulls {
				if k, told := Told(kind, full); k == kind && told == name {
					want = append(want, full)
				}
			}
			if got := Fulls(h); !slices.Equal(got, want) {
				t.Errorf("P9.4: Fulls of kind %d, %q = %q, want %q", kind, name, got, want)
			}
		}
	}
}

func TestFullsOfLongNames(t *testing.T) {
	long := strings.Repeat("n", api.MaxExt)
	for _, kind := range kinds {
		h := head(kind)
		h.Name = long
		for _, full := range Fulls(h) {
			if k, name := Told(kind, full); k != kind || name != long {
				t.Errorf("P9.4: a full name of kind %d and %d bytes tells kind %d and %d bytes", kind, len(long), k, len(name))
			}
		}
	}
}

func TestRightHeads(t *testing.T) {
	long := strings.Repeat("x", api.MaxExt)
	for _, kind := range kinds {
		for what, turn := range map[string]func(h *api.Head){
			"as it is":            func(h *api.Head) {},
			"a Name of 65536":     func(h *api.Head) { h.Name = long },
			"a Name of one byte":  func(h *api.Head) { h.Name = "\xff" },
			"a User of 65536":     func(h *api.Head) { h.User = long },
			"a Group of 65536":    func(h *api.Head) { h.Group = long },
			"no User, no Group":   func(h *api.Head) { h.User, h.Group = "", "" },
			"bytes that aren't 0": func(h *api.Head) { h.User, h.Group = "\xff\x01", "\x80/" },
			"nothing but 0":       func(h *api.Head) { h.Mode, h.UID, h.GID, h.Time = 0, 0, 0, api.Time{} },
			"greatest numbers":    func(h *api.Head) { h.Mode, h.UID, h.GID = math.MaxInt64, math.MaxInt64, math.MaxInt64 },
			"the first time":      func(h *api.Head) { h.Time = api.Time{Sec: math.MinInt64} },
			"the last time":       func(h *api.Head) { h.Time = api.Time{Sec: math.MaxInt64, Nano: 999999999} },
			"no Extra":            func(h *api.Head) { h.Extra = nil },
			"an empty Extra":      func(h *api.Head) { h.Extra = []api.Pair{} },
			"keys like known":     func(h *api.Head) { h.Extra = list("Path", "v", "pat", "v", "path ", "\x00") },
			"no Size, no numbers": func(h *api.Head) { h.Size, h.Major, h.Minor = 0, 0, 0 },
		} {
			h := head(kind)
			turn(&h)
			if got := Wrong(h); got != 0 {
				t.Errorf("P9.2: Wrong of kind %d, %s = %d, want 0", kind, what, got)
			}
		}
	}
	for _, kind := range kinds {
		for _, name := range []string{"a/", "/", "//"} {
			h := head(kind)
			h.Name = name
			want := 0
			if kind == api.File {
				want = api.FieldName
			}
			if got := Wrong(h); got != want {
				t.Errorf("P9.2: Wrong of kind %d, Name %q = %d, want %d", kind, name, got, want)
			}
		}
	}
	for _, kind := range []int{api.Link, api.Sym} {
		for _, link := range []string{"to/", "/", "\xff", long, long[1:] + "/"} {
			h := head(kind)
			h.Link = link
			if got := Wrong(h); got != 0 {
				t.Errorf("P9.2: Wrong of kind %d, a Link of %d bytes = %d, want 0", kind, len(link), got)
			}
		}
	}
	for _, h := range []api.Head{
		{Kind: api.File, Name: "a", Size: math.MaxInt64},
		{Kind: api.Char, Name: "a", Major: math.MaxInt64, Minor: math.MaxInt64},
		{Kind: api.Block, Name: "a", Major: math.MaxInt64, Minor: math.MaxInt64},
		{Kind: api.Char, Name: "a", Minor: 1},
		{Kind: api.Block, Name: "a", Major: 1},
	} {
		if got := Wrong(h); got != 0 {
			t.Errorf("P9.2: Wrong(%v) = %d, want 0", h, got)
		}
	}
}

// spoil is one way to make one field wrong; of some kinds only.
type spoil struct {
	field int
	what  string
	kinds []int
	turn  func(h *api.Head)
}

func spoils() []spoil {
	long := strings.Repeat("x", api.MaxExt+1)
	var all []spoil
	add := func(field int, what string, of []int, turn func(h *api.Head)) {
		all = append(all, spoil{field, what, of, turn})
	}
	but := func(not ...int) []int {
		return slices.DeleteFunc(slices.Clone(kinds), func(k int) bool { return slices.Contains(not, k) })
	}
	links, devices, files := []int{api.Link, api.Sym}, []int{api.Char, api.Block}, []int{api.File}
	for _, kind := range noKinds {
		add(api.FieldKind, "no kind", kinds, func(h *api.Head) { h.Kind = kind })
	}
	for _, name := range []string{"", "\x00", "a\x00", "\x00a", long} {
		add(api.FieldName, "Name", kinds, func(h *api.Head) { h.Name = name })
		add(api.FieldLink, "Link", links, func(h *api.Head) { h.Link = name })
	}
	for _, name := range []string{"a/", "/", "//", "a//", long[2:] + "/"} {
		add(api.FieldName, "a File's Name that ends in /", files, func(h *api.Head) { h.Name = name })
	}
	for _, link := range []string{"x", "/", "\x00"} {
		add(api.FieldLink, "a Link of no link", but(links...), func(h *api.Head) { h.Link = link })
	}
	for _, n := range []int64{-1, math.MinInt64} {
		add(api.FieldMode, "Mode", kinds, func(h *api.Head) { h.Mode = n })
		add(api.FieldUID, "UID", kinds, func(h *api.Head) { h.UID = n })
		add(api.FieldGID, "GID", kinds, func(h *api.Head) { h.GID = n })
		add(api.FieldSize, "Size", kinds, func(h *api.Head) { h.Size = n })
		add(api.FieldMajor, "Major", kinds, func(h *api.Head) { h.Major = n })
		add(api.FieldMinor, "Minor", kinds, func(h *api.Head) { h.Minor = n })
	}
	for _, n := range []int64{1, math.MaxInt64} {
		add(api.FieldSize, "a Size of no File", but(api.File), func(h *api.Head) { h.Size = n })
		add(api.FieldMajor, "a Major of no device", but(devices...), func(h *api.Head) { h.Major = n })
		add(api.FieldMinor, "a Minor of no device", but(devices...), func(h *api.Head) { h.Minor = n })
	}
	for _, nano := range []int64{-1, math.MinInt64, 1000000000, math.MaxInt64} {
		add(api.FieldTime, "Nano", kinds, func(h *api.Head) { h.Time.Nano = nano })
	}
	for _, s := range []string{"\x00", "a\x00", "\x00a", long} {
		add(api.FieldUser, "User", kinds, func(h *api.Head) { h.User = s })
		add(api.FieldGroup, "Group", kinds, func(h *api.Head) { h.Group = s })
	}
	for _, l := range [][]api.Pair{
		list("path", "c"), list("linkpath", "c"), list("uname", "c"), list("gname", "c"),
		list("uid", "1"), list("gid", "1"), list("size", "1"), list("mtime", "1"),
		list("a", "1", "path", "c"), list("path", "c", "z", "1"), list("a", "1", "mtime", "1", "z", "1"),
		list("b", "1", "a", "1"), list("a", "1", "a", "1"), list("a", "1", "a", "2"), list("a", "1", "c", "1", "b", "1"),
		list("a", ""), list("a", "1", "b", ""), list("path", ""),
		list("", "v"), list("a=b", "v"), list("a\x00", "v"), list("\xff", "v"), list("a", "\xff"),
	} {
		add(api.FieldExtra, "Extra", kinds, func(h *api.Head) { h.Extra = l })
	}
	return all
}

func TestWrongOfOneField(t *testing.T) {
	seen := map[int]bool{}
	for _, s := range spoils() {
		for _, kind := range s.kinds {
			h := head(kind)
			s.turn(&h)
			// What else a kind that is none asks for can't be told ahead of it: the Kind is the first of all.
			if got := Wrong(h); got != s.field {
				t.Errorf("P9.2: Wrong of kind %d, %s = %d, want %d", kind, s.what, got, s.field)
			}
			seen[s.field] = true
		}
	}
	for field := api.FieldKind; field <= api.FieldExtra; field++ {
		if !seen[field] {
			t.Errorf("P9.2: no head with field %d wrong was asked", field)
		}
	}
}

func TestWrongOfTwoFields(t *testing.T) {
	all := spoils()
	for _, a := range all {
		for _, b := range all {
			for _, kind := range a.kinds {
				if a.field >= b.field || !slices.Contains(b.kinds, kind) {
					continue
				}
				h := head(kind)
				a.turn(&h)
				b.turn(&h)
				if got := Wrong(h); got != a.field {
					t.Fatalf("P9.2: Wrong of kind %d, %s and %s = %d, want %d", kind, a.what, b.what, got, a.field)
				}
			}
		}
	}
}

func TestWrongOfAnEmptyHead(t *testing.T) {
	if got := Wrong(api.Head{}); got != api.FieldKind {
		t.Errorf("P9.2: Wrong of an empty head = %d, want %d", got, api.FieldKind)
	}
	for _, kind := range kinds {
		if got := Wrong(api.Head{Kind: kind}); got != api.FieldName {
			t.Errorf("P9.2: Wrong of a head of kind %d alone = %d, want %d", kind, got, api.FieldName)
		}
	}
}

func TestRight(t *testing.T) {
	file := func(size int64, data []byte) api.Item {
		return api.Item{Head: api.Head{Kind: api.File, Name: "a", Size: size}, Data: data}
	}
	for _, c := range []struct {
		what string
		x    api.Item
		want bool
	}{
		{"bytes as Size says", file(3, []byte("abc")), true},
		{"no bytes", file(0, nil), true},
		{"an empty list", file(0, []byte{}), true},
		{"one byte too few", file(4, []byte("abc")), false},
		{"one byte too many", file(2, []byte("abc")), false},
		{"bytes beside Size 0", file(0, []byte("a")), false},
		{"Size without bytes", file(1, nil), false},
		{"Size below 0", file(-1, nil), false},
		{"the greatest Size", file(math.MaxInt64, nil), false},
		{"a Size that 32 bits would cut", file(1<<32, nil), false},
		{"a Size that 32 bits would cut to the bytes", file(1<<32+3, []byte("abc")), false},
		{"spare room behind the bytes", file(1, make([]byte, 1, 9)), true},
		{"an empty item", api.Item{}, false},
		{"a Dir", api.Item{Head: head(api.Dir)}, true},
		{"a Dir with bytes", api.Item{Head: head(api.Dir), Data: []byte("a")}, false},
		{"a Dir with bytes and Size", api.Item{Head: api.Head{Kind: api.Dir, Name: "a", Size: 1}, Data: []byte("a")}, false},
		{"a Sym with an empty list", api.Item{Head: head(api.Sym), Data: []byte{}}, true},
		{"a wrong head with its bytes", api.Item{Head: api.Head{Kind: api.File, Size: 1}, Data: []byte("a")}, false},
	} {
		if got := Right(c.x); got != c.want {
			t.Errorf("P9.2: Right of %s = %v", c.what, got)
		}
	}
	for _, s := range spoils() {
		for _, kind := range s.kinds {
			x := api.Item{Head: head(kind)}
			s.turn(&x.Head)
			if 0 <= x.Head.Size && x.Head.Size < 100 {
				x.Data = make([]byte, x.Head.Size)
			}
			if Right(x) {
				t.Errorf("P9.2: Right of kind %d, %s", kind, s.what)
			}
		}
	}
}

// full is an item of which no field is zero, right or not.
func full() api.Item {
	return api.Item{
		Head: api.Head{
			Kind: api.Char, Name: "name", Link: "link", Mode: 1, UID: 2, GID: 3, Size: 4,
			Time: api.Time{Sec: 5, Nano: 6}, User: "user", Group: "group", Major: 7, Minor: 8,
			Extra: list("a", "1", "b", "2"),
		},
		Data: []byte("data"),
	}
}

// changes make each an item that is alike but for one thing.
func changes() map[string]func(x *api.Item) {
	return map[string]func(x *api.Item){
		"Kind":             func(x *api.Item) { x.Head.Kind = api.Block },
		"Name":             func(x *api.Item) { x.Head.Name = "namf" },
		"Link":             func(x *api.Item) { x.Head.Link = "" },
		"Mode":             func(x *api.Item) { x.Head.Mode++ },
		"UID":              func(x *api.Item) { x.Head.UID++ },
		"GID":              func(x *api.Item) { x.Head.GID++ },
		"Size":             func(x *api.Item) { x.Head.Size++ },
		"Sec":              func(x *api.Item) { x.Head.Time.Sec++ },
		"Nano":             func(x *api.Item) { x.Head.Time.Nano++ },
		"User":             func(x *api.Item) { x.Head.User += "\x00" },
		"Group":            func(x *api.Item) { x.Head.Group = "Group" },
		"Major":            func(x *api.Item) { x.Head.Major++ },
		"Minor":            func(x *api.Item) { x.Head.Minor++ },
		"a first key":      func(x *api.Item) { x.Head.Extra[0].Key = "A" },
		"a last key":       func(x *api.Item) { x.Head.Extra[1].Key = "c" },
		"a first value":    func(x *api.Item) { x.Head.Extra[0].Value = "3" },
		"a last value":     func(x *api.Item) { x.Head.Extra[1].Value = "" },
		"a pair more":      func(x *api.Item) { x.Head.Extra = append(x.Head.Extra, list("c", "3")...) },
		"an empty pair":    func(x *api.Item) { x.Head.Extra = append(x.Head.Extra, api.Pair{}) },
		"a pair less":      func(x *api.Item) { x.Head.Extra = x.Head.Extra[:1] },
		"no pair":          func(x *api.Item) { x.Head.Extra = nil },
		"pairs turned":     func(x *api.Item) { slices.Reverse(x.Head.Extra) },
		"a first byte":     func(x *api.Item) { x.Data[0] ^= 1 },
		"a last byte":      func(x *api.Item) { x.Data[3] ^= 128 },
		"a byte more":      func(x *api.Item) { x.Data = append(x.Data, 0) },
		"a byte less":      func(x *api.Item) { x.Data = x.Data[:3] },
		"no byte":          func(x *api.Item) { x.Data = nil },
		"bytes out of row": func(x *api.Item) { slices.Reverse(x.Data) },
	}
}

func TestSame(t *testing.T) {
	if !Same(full(), full()) || !Same(api.Item{}, api.Item{}) {
		t.Error("P9.3: Same of items that are alike")
	}
	for what, change := range changes() {
		x := full()
		change(&x)
		if Same(x, full()) || Same(full(), x) {
			t.Errorf("P9.3: Same of items alike but for %s", what)
		}
		if !Same(x, deep(x)) {
			t.Errorf("P9.3: not Same of items alike, with %s changed in both", what)
		}
	}
	// A field that is left out of what is held against would be seen by none of the changes above.
	if n := reflect.TypeFor[api.Head]().NumField(); n != 13 {
		t.Errorf("P9.3: a head has %d fields, and 13 are changed here", n)
	}
}

func TestSameOfEmptyLists(t *testing.T) {
	with := func(extra []api.Pair, data []byte) api.Item {
		return api.Item{Head: api.Head{Kind: api.File, Name: "a", Extra: extra}, Data: data}
	}
	items := []api.Item{with(nil, nil), with([]api.Pair{}, nil), with(nil, []byte{}), with([]api.Pair{}, make([]byte, 0, 5))}
	for i, a := range items {
		for j, b := range items {
			if !Same(a, b) {
				t.Errorf("P9.3: empty lists and none aren't the same in items %d and %d", i, j)
			}
		}
		if !Same(Copy(a), a) || !Right(Copy(a)) {
			t.Errorf("P9.3: a copy of item %d isn't the same", i)
		}
	}
}

func TestCopy(t *testing.T) {
	items := []api.Item{full(), {}, {Head: head(api.File), Data: []byte("abc")}, {Head: head(api.Dir)}}
	for i, x := range items {
		if y := Copy(x); !Same(x, y) || !Same(y, deep(x)) {
			t.Errorf("P9.3: a copy of item %d is %v", i, y)
		}
	}
	for what, change := range changes() {
		x := full()
		y := Copy(x)
		change(&y)
		if !reflect.DeepEqual(x, full()) {
			t.Errorf("P9.3: %s changed in the copy is changed in what it was made of", what)
		}
		y = Copy(x)
		change(&x)
		if !reflect.DeepEqual(y, full()) {
			t.Errorf("P9.3: %s changed in what it was made of is changed in the copy", what)
		}
	}
}

func TestCopySharesNoRoom(t *testing.T) {
	x := full()
	pairs := append(list("a", "1"), list("behind", "kept")...)
	data := []byte("databehind")
	x.Head.Extra, x.Data = pairs[:1], data[:4]
	y := Copy(x)
	y.Head.Extra = append(y.Head.Extra, api.Pair{Key: "z", Value: "z"})
	y.Data = append(y.Data, 'z')
	if pairs[1] != (api.Pair{Key: "behind", Value: "kept"}) || string(data) != "databehind" {
		t.Error("P9.3: what is added to a copy is written behind what it was made of")
	}
	x.Head.Extra, x.Data = pairs[:0], data[:0]
	y = Copy(x)
	y.Head.Extra = append(y.Head.Extra, api.Pair{Key: "z", Value: "z"})
	y.Data = append(y.Data, 'z')
	if pairs[0] != (api.Pair{Key: "a", Value: "1"}) || data[0] != 'd' {
		t.Error("P9.3: what is added to a copy of empty lists is written into what it was made of")
	}
}

func TestInputsStay(t *testing.T) {
	for _, kind := range slices.Concat(kinds, noKinds) {
		pairs := list("b", "1", "a", "2", "behind", "kept")
		data := []byte("abcbehind")
		x := api.Item{Head: head(kind), Data: data[:3]}
		x.Head.Extra = pairs[:2]
		before := deep(x)
		Fulls(x.Head)
		Wrong(x.Head)
		Right(x)
		Same(x, x)
		Copy(x)
		if !reflect.DeepEqual(x, before) || !slices.Equal(pairs, list("b", "1", "a", "2", "behind", "kept")) || string(data) != "abcbehind" {
			t.Errorf("R4: an item of kind %d is changed", kind)
		}
	}
}

// wrongFields are all fields that the chapter's words call wrong, each by itself.
func wrongFields(h api.Head) []int {
	is := func(of ...int) bool { return slices.Contains(of, h.Kind) }
	clean := func(s string) bool { return strings.Count(s, "\x00") == 0 && len(s) < 65537 }
	wrong := map[int]bool{
		api.FieldKind:  h.Kind < 1 || h.Kind > 7,
		api.FieldName:  h.Name == "" || !clean(h.Name) || is(api.File) && h.Name[len(h.Name)-1] == '/',
		api.FieldLink:  is(api.Link, api.Sym) == (h.Link == "") || !clean(h.Link),
		api.FieldMode:  h.Mode < 0,
		api.FieldUID:   h.UID < 0,
		api.FieldGID:   h.GID < 0,
		api.FieldSize:  h.Size < 0 || h.Size > 0 && !is(api.File),
		api.FieldTime:  h.Time.Nano < 0 || h.Time.Nano > 999999999,
		api.FieldUser:  !clean(h.User),
		api.FieldGroup: !clean(h.Group),
		api.FieldMajor: h.Major < 0 || h.Major > 0 && !is(api.Char, api.Block),
		api.FieldMinor: h.Minor < 0 || h.Minor > 0 && !is(api.Char, api.Block),
	}
	for i, p := range h.Extra {
		knownKeys := []string{"path", "linkpath", "uname", "gname", "uid", "gid", "size", "mtime"}
		if i > 0 && h.Extra[i-1].Key >= p.Key || p.Key == "" || p.Value == "" || strings.ContainsAny(p.Key, "=\x00") ||
			strings.ToValidUTF8(p.Key, "") != p.Key || strings.ToValidUTF8(p.Value, "") != p.Value || slices.Contains(knownKeys, p.Key) {
			wrong[api.FieldExtra] = true
		}
	}
	var all []int
	for field := api.FieldKind; field <= api.FieldExtra; field++ {
		if wrong[field] {
			all = append(all, field)
		}
	}
	return all
}

// checkHead holds what is told of a head against the chapter's words.
func checkHead(t *testing.T, h api.Head) {
	t.Helper()
	want := 0
	if all := wrongFields(h); len(all) > 0 {
		want = all[0]
	}
	if got := Wrong(h); got != want {
		t.Errorf("P9.2: Wrong(%v) = %d, want %d", h, got, want)
	}
	x := api.Item{Head: h, Data: []byte("ab")}
	if got := Right(x); got != (want == 0 && h.Size == 2) {
		t.Errorf("P9.2: Right of %v and two bytes = %v", h, got)
	}
	if !Same(Copy(x), x) {
		t.Errorf("P9.3: a copy of %v isn't the same", h)
	}
	fulls := Fulls(h)
	if len(fulls) == 0 || len(fulls) > 2 {
		t.Errorf("P9.1: Fulls(%v) = %q", h, fulls)
	}
	for _, full := range fulls {
		if kind, name := Told(h.Kind, full); want == 0 && (kind != h.Kind || name != h.Name) {
			t.Errorf("P9.4: %q of Fulls(%v) tells %d, %q", full, h, kind, name)
		}
	}
}

func TestMadeUpHeads(t *testing.T) {
	r := rand.New(rand.NewSource(9))
	texts := []string{"", "a", "a", "b", "a/", "/", "//", "a\x00", "\xff", "c/d"}
	numbers := []int64{0, 0, 0, 0, 1, 2, 2, -1, math.MaxInt64, math.MinInt64}
	nanos := []int64{0, 0, 0, 1, 999999999, 1000000000, -1}
	keys := []string{"a", "b", "c", "comment", "path", "mtime", "x=y", "\xff", ""}
	sparse := func(odds int, s []string) string {
		if r.Intn(odds) > 0 {
			return ""
		}
		return s[r.Intn(len(s))]
	}
	for range 200000 {
		kind := r.Intn(8) + r.Intn(2)
		h := api.Head{
			Kind: kind, Name: texts[r.Intn(len(texts))], Link: sparse(2, texts),
			Mode: numbers[r.Intn(7+r.Intn(4))%10], UID: numbers[r.Intn(7)], GID: numbers[r.Intn(8)], Size: numbers[r.Intn(8)],
			Time: api.Time{Sec: numbers[r.Intn(10)], Nano: nanos[r.Intn(len(nanos))]},
			User: sparse(3, texts), Group: sparse(3, texts),
			Major: numbers[r.Intn(6)], Minor: numbers[r.Intn(6)],
		}
		for range r.Intn(3) {
			h.Extra = append(h.Extra, api.Pair{Key: keys[r.Intn(len(keys))], Value: sparse(2, texts)})
		}
		checkHead(t, h)
		if t.Failed() {
			return
		}
	}
}

func FuzzHead(f *testing.F) {
	f.Add(1, "a", "", int64(2), int64(0), "u", "comment", "c")
	f.Add(6, "a/", "", int64(0), int64(0), "", "", "")
	f.Add(3, "s", "to/", int64(0), int64(0), "\x00", "path", "a")
	f.Add(4, "c", "", int64(-1), int64(7), "", "a=b", "\xff")
	f.Add(-1, "", "/", int64(1), int64(-7), "", "a", "")
	f.Fuzz(func(t *testing.T, kind int, name, link string, size, number int64, user, key, value string) {
		h := api.Head{
			Kind: kind, Name: name, Link: link, Mode: number, Size: size, Time: api.Time{Sec: size, Nano: number},
			User: user, Group: link, Major: number, Minor: size, Extra: list(key, value),
		}
		checkHead(t, h)
		h.Extra, h.Link, h.Major, h.Minor = nil, "", 0, 0
		checkHead(t, h)
	})
}
