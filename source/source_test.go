package source

import (
	"bytes"
	"math"
	"math/rand"
	"slices"
	"testing"

	"oakum/api"
)

// numbered is n bytes of which no two blocks are the same.
func numbered(n int) []byte {
	b := make([]byte, n)
	for i := range b {
		b[i] = byte(i%251 + i/api.BlockSize)
	}
	return b
}

// sizeAt is what the script says for piece i, by the chapter's words.
func sizeAt(sizes []int, i int) int {
	switch {
	case len(sizes) == 0:
		return 512
	case i >= len(sizes):
		i = len(sizes) - 1
	}
	if sizes[i] < 1 {
		return 1
	}
	return sizes[i]
}

// piecesOf are the pieces that n bytes come in, by the chapter's words: how many bytes each has.
func piecesOf(n int, sizes []int) []int {
	pieces := []int{}
	for i := 0; n > 0; i++ {
		piece := sizeAt(sizes, i)
		if piece > n {
			piece = n
		}
		pieces = append(pieces, piece)
		n -= piece
	}
	return pieces
}

// scripts are sizes at the chapter's edges.
func scripts() [][]int {
	return [][]int{nil, {}, {1}, {0}, {-1}, {math.MinInt}, {math.MaxInt}, {math.MaxInt, math.MaxInt}, {1 << 31}, {2}, {3}, {7}, {255}, {256}, {511}, {512}, {513},
		{1000}, {1023}, {1024}, {1025}, {5000}, {1, 511}, {511, 1}, {512, 1}, {513, 511}, {1, 512}, {1, 2, 3}, {0, 600}, {600, 0}, {700, -5, 2}, {-5, 0, math.MinInt, 4},
		{3, 0, 600}, {math.MinInt, math.MaxInt}, {2000, 1, 1, 509}, slices.Repeat([]int{1}, 600), slices.Repeat([]int{0, 100}, 40)}
}

// lengths of bytes about the ends of blocks.
func lengths() []int {
	return []int{0, 1, 2, 3, 510, 511, 512, 513, 514, 1000, 1023, 1024, 1025, 1535, 1536, 1537, 4096, 5000}
}

// checkPieces takes all pieces of n bytes out and holds them against the chapter's words.
func checkPieces(t *testing.T, n int, sizes []int) {
	t.Helper()
	b := numbered(n)
	s := New(b, sizes)
	at := 0
	for i, want := range piecesOf(n, sizes) {
		if s.Left() != n-at {
			t.Fatalf("P13.1: %d bytes, sizes %v, ahead of piece %d: Left %d; want %d", n, sizes, i, s.Left(), n-at)
		}
		piece, ok := s.Piece()
		if !ok || !bytes.Equal(piece, b[at:at+want]) {
			t.Fatalf("P13.1: %d bytes, sizes %v: piece %d: %d bytes, %v; want %d, those from %d on", n, sizes, i, len(piece), ok, want, at)
		}
		at += want
	}
	for range 3 {
		if piece, ok := s.Piece(); len(piece) != 0 || ok || s.Left() != 0 {
			t.Fatalf("P13.1: %d bytes, sizes %v, all told: Piece %v, %v; Left %d", n, sizes, piece, ok, s.Left())
		}
	}
}

// reading is a reader, and what it should be by the chapter's words.
type reading struct {
	b      []byte
	pieces []int
	asked  int
	held   int
	told   int
	source *Source
	reader *Blocks
}

func newReading(b []byte, sizes []int) *reading {
	s := New(b, sizes)
	return &reading{b: b, pieces: piecesOf(len(b), sizes), source: s, reader: NewBlocks(s)}
}

// wantCode is what the next asking should answer, behind the pieces that it needs.
func (r *reading) wantCode() api.Code {
	for r.held < 512 && r.asked < len(r.pieces) {
		r.held += r.pieces[r.asked]
		r.asked++
	}
	switch {
	case r.held == 0:
		return api.None
	case r.held < 512:
		return api.Short
	}
	r.held -= 512
	r.told++
	return api.Fine
}

// next asks once, and tells whether a block was told.
func (r *reading) next(t *testing.T) bool {
	t.Helper()
	want := r.wantCode()
	block, code := r.reader.Next()
	if code != want {
		t.Fatalf("P13.2: Next, %d bytes in pieces of %v, %d blocks told: %v; want %v", len(r.b), r.pieces, r.told, code, want)
	}
	if code == api.Fine && !bytes.Equal(block, r.b[512*r.told-512:512*r.told]) {
		t.Fatalf("P13.2: Next, %d bytes in pieces of %v: block %d isn't that of the bytes", len(r.b), r.pieces, r.told-1)
	}
	if code != api.Fine && len(block) != 0 {
		t.Fatalf("R2: Next: %v and %d bytes", code, len(block))
	}
	r.asks(t)
	return code == api.Fine
}

// asks holds the places against each other: a piece that was asked for too early, or too late, is to be seen in Held and Left.
func (r *reading) asks(t *testing.T) {
	t.Helper()
	left := len(r.b) - 512*r.told - r.held
	if r.reader.Index() != int64(r.told) || r.reader.Held() != r.held || r.source.Left() != left {
		t.Fatalf("P13.2: %d bytes in pieces of %v: Index %d, Held %d, Left %d; want %d, %d, %d",
			len(r.b), r.pieces, r.reader.Index(), r.reader.Held(), r.source.Left(), r.told, r.held, left)
	}
	if r.held > 0 && r.held >= 512+slices.Max(r.pieces) {
		t.Fatalf("P13.3: %d bytes are held, in pieces of %v", r.held, r.pieces)
	}
}

// checkBlocks reads all blocks of b and asks on behind them.
func checkBlocks(t *testing.T, b []byte, sizes []int) {
	t.Helper()
	r := newReading(b, sizes)
	r.asks(t)
	for r.next(t) {
	}
	for range 3 {
		r.next(t)
	}
	if r.told != len(b)/512 || r.held != len(b)%512 {
		t.Fatalf("P13.3: %d bytes, sizes %v: %d blocks, %d bytes left", len(b), sizes, r.told, r.held)
	}
}

func TestPiece(t *testing.T) {
	for _, c := range []struct {
		n     int
		sizes []int
		want  []int
	}{
		{0, nil, nil},
		{0, []int{5}, nil},
		{1, nil, []int{1}},
		{511, nil, []int{511}},
		{512, nil, []int{512}},
		{513, nil, []int{512, 1}},
		{1030, []int{}, []int{512, 512, 6}},
		{1030, []int{3, 0, 600}, []int{3, 1, 600, 426}},
		{3, []int{1}, []int{1, 1, 1}},
		{3, []int{0}, []int{1, 1, 1}},
		{3, []int{-1}, []int{1, 1, 1}},
		{3, []int{math.MinInt}, []int{1, 1, 1}},
		{3, []int{math.MaxInt}, []int{3}},
		{7, []int{3}, []int{3, 3, 1}},
		{7, []int{1, 3}, []int{1, 3, 3}},
		{8, []int{1, 3}, []int{1, 3, 3, 1}},
		{8, []int{3, 1}, []int{3, 1, 1, 1, 1, 1}},
		{8, []int{3, 0}, []int{3, 1, 1, 1, 1, 1}},
		{8, []int{0, 3, -7, 2}, []int{1, 3, 1, 2, 1}},
		{4, []int{3, 1, 9}, []int{3, 1}},
		{4, []int{9, 1, 1}, []int{4}},
		{600, []int{1}, slices.Repeat([]int{1}, 600)},
	} {
		if !slices.Equal(piecesOf(c.n, c.sizes), c.want) {
			t.Errorf("%d bytes, sizes %v: the test's own pieces are %v; want %v", c.n, c.sizes, piecesOf(c.n, c.sizes), c.want)
		}
		s := New(numbered(c.n), c.sizes)
		got := []int{}
		for piece, ok := s.Piece(); ok; piece, ok = s.Piece() {
			got = append(got, len(piece))
		}
		if !slices.Equal(got, c.want) {
			t.Errorf("P13.1: %d bytes, sizes %v: pieces of %v; want %v", c.n, c.sizes, got, c.want)
		}
	}
}

func TestPieces(t *testing.T) {
	for _, n := range lengths() {
		for _, sizes := range scripts() {
			checkPieces(t, n, sizes)
		}
	}
}

// TestShortScripts goes over all scripts of at most four of six sizes.
func TestShortScripts(t *testing.T) {
	some := []int{-3, 0, 1, 2, 3, 9}
	lists := [][]int{{}}
	for first := 0; first < len(lists); first++ {
		if len(lists[first]) < 4 {
			for _, size := range some {
				lists = append(lists, append(slices.Clone(lists[first]), size))
			}
		}
	}
	for _, sizes := range lists {
		for n := range 12 {
			checkPieces(t, n, sizes)
		}
	}
}

// TestNoSource asks all of a nil source, and of one without bytes.
func TestNoSource(t *testing.T) {
	for what, s := range map[string]*Source{"nil": nil, "zero": {}, "of nil": New(nil, nil), "of no bytes": New([]byte{}, []int{4})} {
		for range 3 {
			if piece, ok := s.Piece(); len(piece) != 0 || ok || s.Left() != 0 {
				t.Errorf("P13.1: %s: Piece %v, %v; Left %d", what, piece, ok, s.Left())
			}
		}
		r := NewBlocks(s)
		if r == nil {
			t.Fatalf("P13.2: %s: its reader is nil", what)
		}
		for range 3 {
			if block, code := r.Next(); len(block) != 0 || code != api.None || r.Index() != 0 || r.Held() != 0 {
				t.Errorf("P13.2: %s: Next %v, %v; Index %d, Held %d", what, block, code, r.Index(), r.Held())
			}
		}
	}
}

func TestNoReader(t *testing.T) {
	var r *Blocks
	for range 3 {
		if block, code := r.Next(); len(block) != 0 || code != api.Nil || r.Index() != 0 || r.Held() != 0 {
			t.Errorf("P13.2: nil: Next %v, %v; Index %d, Held %d", block, code, r.Index(), r.Held())
		}
	}
	if _, code := new(Blocks).Next(); code != api.None {
		t.Errorf("P13.2: a reader without a source: Next %v", code)
	}
}

func TestExample(t *testing.T) {
	b := numbered(513)
	for _, sizes := range scripts() {
		r := NewBlocks(New(b, sizes))
		block, code := r.Next()
		if code != api.Fine || !bytes.Equal(block, b[:512]) {
			t.Errorf("P13.2: sizes %v: the block: %d bytes, %v", sizes, len(block), code)
		}
		for range 3 {
			if rest, code := r.Next(); len(rest) != 0 || code != api.Short || r.Index() != 1 || r.Held() != 1 {
				t.Errorf("P13.2: sizes %v: behind it: %d bytes, %v; Index %d, Held %d", sizes, len(rest), code, r.Index(), r.Held())
			}
		}
	}
}

func TestBlocks(t *testing.T) {
	for _, n := range lengths() {
		for _, sizes := range scripts() {
			checkBlocks(t, numbered(n), sizes)
		}
	}
}

// TestAsks: a reader asks for nothing ahead of Next, nor while it has a block.
func TestAsks(t *testing.T) {
	s := New(numbered(3000), []int{1536, 100, 700})
	r := NewBlocks(s)
	if s.Left() != 3000 || r.Held() != 0 {
		t.Errorf("P13.2: ahead of Next: Left %d, Held %d", s.Left(), r.Held())
	}
	for i, want := range []struct{ left, held int }{{1464, 1024}, {1464, 512}, {1464, 0}, {664, 288}, {0, 440}} {
		if _, code := r.Next(); code != api.Fine || s.Left() != want.left || r.Held() != want.held {
			t.Errorf("P13.2: behind block %d: %v, Left %d, Held %d; want %d, %d", i, code, s.Left(), r.Held(), want.left, want.held)
		}
	}
}

func TestMadeUp(t *testing.T) {
	r := rand.New(rand.NewSource(13))
	for range 3000 {
		b := make([]byte, r.Intn(4000))
		r.Read(b)
		sizes := make([]int, r.Intn(12))
		most := 1 + r.Intn(1500)
		for i := range sizes {
			sizes[i] = r.Intn(most+3) - 2
		}
		checkPieces(t, len(b), sizes)
		checkBlocks(t, b, sizes)
	}
}

// TestByTurns: what is taken out by hand the reader doesn't see, and two readers part the pieces of one source.
func TestByTurns(t *testing.T) {
	b := numbered(2048)
	s := New(b, []int{300, 400, 512})
	first, second := NewBlocks(s), NewBlocks(s)
	piece, ok := s.Piece()
	if !ok || !bytes.Equal(piece, b[:300]) {
		t.Fatalf("P13.1: Piece: %d bytes, %v", len(piece), ok)
	}
	block, code := first.Next()
	if code != api.Fine || !bytes.Equal(block, b[300:812]) || first.Held() != 400 {
		t.Fatalf("P13.2: Next of the first: %v, Held %d", code, first.Held())
	}
	block, code = second.Next()
	if code != api.Fine || !bytes.Equal(block, b[1212:1724]) || second.Held() != 0 {
		t.Fatalf("P13.2: Next of the second: %v, Held %d", code, second.Held())
	}
	block, code = first.Next()
	if code != api.Fine || !bytes.Equal(block, slices.Concat(b[812:1212], b[1724:1836])) || first.Held() != 212 || s.Left() != 0 {
		t.Fatalf("P13.2: Next of the first, again: %v, Held %d, Left %d", code, first.Held(), s.Left())
	}
	if _, code := second.Next(); code != api.None {
		t.Errorf("P13.2: Next of the second, again: %v; want none", code)
	}
	if _, code := first.Next(); code != api.Short || first.Index() != 2 || second.Index() != 1 {
		t.Errorf("P13.2: Next of the first, at last: %v; Index %d and %d", code, first.Index(), second.Index())
	}
}

// TestApart: sources of the same bytes and sizes know nothing of each other.
func TestApart(t *testing.T) {
	b, sizes := numbered(20), []int{3, 5, 7}
	one, other := New(b, sizes), New(b, sizes)
	one.Piece()
	one.Piece()
	if piece, ok := other.Piece(); !ok || !bytes.Equal(piece, b[:3]) || one.Left() != 12 || other.Left() != 17 {
		t.Errorf("P13.1: Piece of the other one: %d bytes, %v; Left %d and %d", len(piece), ok, one.Left(), other.Left())
	}
}

// TestHandedIn changes the bytes and sizes that a source was made of, and looks whether it does so itself.
func TestHandedIn(t *testing.T) {
	b, sizes := numbered(1100), []int{3, 600, 100}
	s := New(b, sizes)
	s.Piece()
	clear(b)
	sizes[1], sizes[2] = 1, 1
	want := numbered(1100)
	for _, place := range [][2]int{{3, 603}, {603, 703}, {703, 803}} {
		if piece, ok := s.Piece(); !ok || !bytes.Equal(piece, want[place[0]:place[1]]) {
			t.Errorf("R4: the piece at %v, behind a change of what was handed in: %d bytes, %v", place, len(piece), ok)
		}
	}
	b, sizes = numbered(1100), []int{3, 0, 600}
	r := NewBlocks(New(b[:1050], sizes))
	for range 5 {
		block, _ := r.Next()
		clear(append(block, 1, 2, 3))
	}
	if !bytes.Equal(b, numbered(1100)) || !slices.Equal(sizes, []int{3, 0, 600}) {
		t.Error("R4: what was handed in isn't as it was")
	}
}

// TestTold spoils each piece and block that was told, and what would stand behind it.
func TestTold(t *testing.T) {
	b := numbered(3000)
	spoil := func(told []byte) {
		for i := range cap(told) {
			told[:cap(told)][i] = 0xee
		}
	}
	for _, sizes := range scripts() {
		s, at := New(b, sizes), 0
		for piece, ok := s.Piece(); ok; piece, ok = s.Piece() {
			if !bytes.Equal(piece, b[at:at+len(piece)]) {
				t.Fatalf("R4: sizes %v: the piece at %d, behind a change of the one ahead of it", sizes, at)
			}
			at += len(piece)
			spoil(piece)
		}
		r, at := NewBlocks(New(b, sizes)), 0
		for block, code := r.Next(); code == api.Fine; block, code = r.Next() {
			if !bytes.Equal(block, b[at:at+512]) {
				t.Fatalf("R4: sizes %v: the block at %d, behind a change of the one ahead of it", sizes, at)
			}
			at += 512
			spoil(block)
		}
		if at != 2560 {
			t.Errorf("P13.2: sizes %v: blocks up to %d", sizes, at)
		}
	}
}

// TestToldStays: what was told isn't changed by what is told behind it.
func TestToldStays(t *testing.T) {
	b := numbered(5000)
	for _, sizes := range scripts() {
		var all, blocks [][]byte
		s := New(b, sizes)
		for piece, ok := s.Piece(); ok; piece, ok = s.Piece() {
			all = append(all, piece)
		}
		r := NewBlocks(New(b, sizes))
		for block, code := r.Next(); code == api.Fine; block, code = r.Next() {
			blocks = append(blocks, block)
		}
		if !bytes.Equal(slices.Concat(all...), b) || !bytes.Equal(slices.Concat(blocks...), b[:4608]) {
			t.Errorf("R4: sizes %v: pieces or blocks aren't what they were when they were told", sizes)
		}
	}
}

// TestMany reads many bytes at the scripts that would be slow if bytes were shifted at each asking.
func TestMany(t *testing.T) {
	b := numbered(1<<24 + 5)
	for _, sizes := range [][]int{{1}, {math.MaxInt}, {1<<24 + 4, 1}, {513}, make([]int, 1<<20)} {
		r := NewBlocks(New(b, sizes))
		at := 0
		block, code := r.Next()
		for ; code == api.Fine; block, code = r.Next() {
			if !bytes.Equal(block, b[at:at+512]) {
				t.Fatalf("P13.3: the block at %d", at)
			}
			at += 512
		}
		if code != api.Short || r.Index() != 1<<15 || r.Held() != 5 {
			t.Errorf("P13.3: %v; Index %d, Held %d", code, r.Index(), r.Held())
		}
	}
}
