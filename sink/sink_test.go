package sink

import (
	"bytes"
	"math"
	"math/rand"
	"slices"
	"testing"

	"oakum/api"
)

// numbered is n bytes, none of them a nought, of which no two blocks are the same.
func numbered(n int) []byte {
	b := make([]byte, n)
	for i := range b {
		b[i] = byte(1 + (i%251+i/api.BlockSize)%255)
	}
	return b
}

// rooms about the ends of blocks, and those for any bytes.
func rooms() []int64 {
	return []int64{math.MinInt64, -2, -1, 0, 1, 2, 3, 255, 256, 257, 510, 511, 512, 513, 514, 1000, 1023, 1024, 1025, 1536, 5000, 1 << 31, 1 << 32, 1<<32 + 1, math.MaxInt64}
}

// taking is a sink, and what it should be by the chapter's words.
type taking struct {
	room  int64
	put   []byte
	taken int
	sink  *Sink
}

func newTaking(room int64) *taking { return &taking{room: room, sink: New(room)} }

// want is how many of so many more bytes should be taken, and the code; byte by byte, as the chapter has it.
func (s *taking) want(b []byte) (int, api.Code) {
	s.put = append(s.put, b...)
	n := 0
	for n < len(b) && (s.room < 0 || int64(s.taken) < s.room) {
		s.taken++
		n++
	}
	if n < len(b) {
		return n, api.Sink
	}
	return n, api.Fine
}

// take takes b, and holds all that the sink tells against what it should.
func (s *taking) take(t *testing.T, b []byte) {
	t.Helper()
	want, wantCode := s.want(b)
	if n, code := s.sink.Take(b); n != want || code != wantCode {
		t.Fatalf("P14.1: room %d, Take of %d bytes: %d, %v; want %d, %v", s.room, len(b), n, code, want, wantCode)
	}
	s.holds(t)
}

// holds: are the sink's bytes the first ones of what was put?
func (s *taking) holds(t *testing.T) {
	t.Helper()
	if told := s.sink.Bytes(); !bytes.Equal(told, s.put[:s.taken]) {
		t.Fatalf("P14.3: room %d: Bytes: %d bytes; want the first %d that were put", s.room, len(told), s.taken)
	}
}

// writing is a writer into a sink, and what it should be by the chapter's words.
type writing struct {
	into   *taking
	told   bool
	count  int64
	writer *Writer
}

func newWriting(s *taking) *writing { return &writing{into: s, writer: NewWriter(s.sink)} }

// want is the code that a Put of b should tell.
func (w *writing) want(b []byte) api.Code {
	if w.told {
		return api.Sink
	}
	_, code := w.into.want(b)
	if code == api.Fine {
		w.count += int64(len(b))
	}
	w.told = code == api.Sink
	return code
}

func (w *writing) put(t *testing.T, b []byte) {
	t.Helper()
	ahead := w.count
	want := w.want(b)
	if code := w.writer.Put(b); code != want {
		t.Fatalf("P14.2: room %d, %d bytes ahead, Put of %d bytes: %v; want %v", w.into.room, ahead, len(b), code, want)
	}
	w.holds(t)
}

func (w *writing) pad(t *testing.T) {
	t.Helper()
	ahead := w.count
	rest := 0
	for (ahead+int64(rest))%512 != 0 {
		rest++
	}
	want := w.want(make([]byte, rest))
	if code := w.writer.Pad(); code != want {
		t.Fatalf("P14.2: room %d, %d bytes ahead, Pad: %v; want %v", w.into.room, ahead, code, want)
	}
	w.holds(t)
}

func (w *writing) holds(t *testing.T) {
	t.Helper()
	if w.writer.Count() != w.count {
		t.Fatalf("P14.2: room %d: Count %d; want %d", w.into.room, w.writer.Count(), w.count)
	}
	w.into.holds(t)
}

// step is bytes that are put, so many; one below 0 is a Pad.
func (w *writing) step(t *testing.T, n int) {
	t.Helper()
	if n < 0 {
		w.pad(t)
		return
	}
	w.put(t, numbered(n))
}

func TestTake(t *testing.T) {
	type answer struct {
		n    int
		code api.Code
	}
	for _, c := range []struct {
		room int64
		put  []int
		want []answer
	}{
		{3, []int{5, 1}, []answer{{3, api.Sink}, {0, api.Sink}}},
		{3, []int{3, 0, 1, 0}, []answer{{3, api.Fine}, {0, api.Fine}, {0, api.Sink}, {0, api.Fine}}},
		{3, []int{2, 2, 2}, []answer{{2, api.Fine}, {1, api.Sink}, {0, api.Sink}}},
		{3, []int{4, 0}, []answer{{3, api.Sink}, {0, api.Fine}}},
		{1, []int{0, 1, 1}, []answer{{0, api.Fine}, {1, api.Fine}, {0, api.Sink}}},
		{0, []int{0, 1, 0}, []answer{{0, api.Fine}, {0, api.Sink}, {0, api.Fine}}},
		{-1, []int{0, 1, 1000}, []answer{{0, api.Fine}, {1, api.Fine}, {1000, api.Fine}}},
		{math.MinInt64, []int{1, 1000}, []answer{{1, api.Fine}, {1000, api.Fine}}},
		{math.MaxInt64, []int{1, 1000}, []answer{{1, api.Fine}, {1000, api.Fine}}},
		{1 << 32, []int{1, 1000}, []answer{{1, api.Fine}, {1000, api.Fine}}},
	} {
		s := New(c.room)
		for i, n := range c.put {
			if n, code := s.Take(numbered(n)); n != c.want[i].n || code != c.want[i].code {
				t.Errorf("P14.1: room %d, Take %d of %v: %d, %v; want %v", c.room, i, c.put, n, code, c.want[i])
			}
		}
	}
}

// TestExample: room for 3 of 5, then of one.
func TestExample(t *testing.T) {
	s := New(3)
	if n, code := s.Take([]byte("abcde")); n != 3 || code != api.Sink || string(s.Bytes()) != "abc" {
		t.Errorf("P14.1: Take of 5: %d, %v; Bytes %q", n, code, s.Bytes())
	}
	if n, code := s.Take([]byte("f")); n != 0 || code != api.Sink || string(s.Bytes()) != "abc" {
		t.Errorf("P14.1: Take of one more: %d, %v; Bytes %q", n, code, s.Bytes())
	}
}

func TestRooms(t *testing.T) {
	for _, room := range rooms() {
		for _, n := range []int{0, 1, 2, 3, 255, 256, 511, 512, 513, 1024, 3000} {
			s := newTaking(room)
			s.holds(t)
			for range 4 {
				s.take(t, numbered(n))
				s.take(t, nil)
			}
		}
	}
}

// TestShortTakes goes over all rooms below 6 and all runs of four Takes of at most 3 bytes.
func TestShortTakes(t *testing.T) {
	for room := int64(-1); room < 6; room++ {
		for run := range 256 {
			s := newTaking(room)
			for ; run > 0; run /= 4 {
				s.take(t, numbered(run%4))
			}
		}
	}
}

// TestFull: what is full takes nothing any more, for ever; of no bytes nothing is left over.
func TestFull(t *testing.T) {
	s := New(2)
	s.Take([]byte("ab"))
	for range 100 {
		if n, code := s.Take([]byte("c")); n != 0 || code != api.Sink {
			t.Fatalf("P14.1: Take of a full sink: %d, %v", n, code)
		}
		if n, code := s.Take([]byte{}); n != 0 || code != api.Fine {
			t.Fatalf("P14.1: Take of no bytes of a full sink: %d, %v", n, code)
		}
		if string(s.Bytes()) != "ab" {
			t.Fatalf("P14.1: Bytes of a full sink: %q", s.Bytes())
		}
	}
}

func TestNoSink(t *testing.T) {
	var s *Sink
	for _, b := range [][]byte{nil, {}, {1}, numbered(600)} {
		if n, code := s.Take(b); n != 0 || code != api.Nil {
			t.Errorf("P14.1: nil, Take of %d bytes: %d, %v; want 0, nil", len(b), n, code)
		}
		if len(s.Bytes()) != 0 {
			t.Errorf("P14.1: nil, Bytes: %v", s.Bytes())
		}
	}
	for _, b := range [][]byte{nil, {}, {1}, numbered(600)} {
		w := NewWriter(nil)
		for range 3 {
			if code := w.Put(b); code != api.Nil || w.Count() != 0 {
				t.Errorf("P14.2: a writer of a nil sink, Put of %d bytes: %v, Count %d; want nil, 0", len(b), code, w.Count())
			}
			if code := w.Pad(); code != api.Nil || w.Count() != 0 {
				t.Errorf("P14.2: a writer of a nil sink, Pad: %v, Count %d; want nil, 0", code, w.Count())
			}
		}
	}
}

func TestNoWriter(t *testing.T) {
	var w *Writer
	for _, b := range [][]byte{nil, {}, {1}, numbered(600)} {
		if code := w.Put(b); code != api.Nil {
			t.Errorf("P14.2: nil, Put of %d bytes: %v; want nil", len(b), code)
		}
		if code := w.Pad(); code != api.Nil || w.Count() != 0 {
			t.Errorf("P14.2: nil, Pad: %v, Count %d; want nil, 0", code, w.Count())
		}
	}
}

// TestNotMade asks a sink and a writer that New and NewWriter didn't make.
func TestNotMade(t *testing.T) {
	s := new(Sink)
	if n, code := s.Take([]byte("a")); n != 0 || code != api.Sink || len(s.Bytes()) != 0 {
		t.Errorf("R1: a sink that wasn't made: Take %d, %v", n, code)
	}
	w := new(Writer)
	if code := w.Put([]byte("a")); code != api.Nil || w.Pad() != api.Nil || w.Count() != 0 {
		t.Errorf("R1: a writer that wasn't made: Put %v, Count %d", code, w.Count())
	}
}

func TestPut(t *testing.T) {
	type answer struct {
		code  api.Code
		count int64
		taken int
	}
	for _, c := range []struct {
		room  int64
		steps []int
		want  []answer
	}{
		{-1, []int{3, -1, -1, 0}, []answer{{api.Fine, 3, 3}, {api.Fine, 512, 512}, {api.Fine, 512, 512}, {api.Fine, 512, 512}}},
		{515, []int{3, -1, 4, 0, -1}, []answer{{api.Fine, 3, 3}, {api.Fine, 512, 512}, {api.Sink, 512, 515}, {api.Sink, 512, 515}, {api.Sink, 512, 515}}},
		{512, []int{512, -1, 0, 1, 0, -1}, []answer{{api.Fine, 512, 512}, {api.Fine, 512, 512}, {api.Fine, 512, 512}, {api.Sink, 512, 512}, {api.Sink, 512, 512}, {api.Sink, 512, 512}}},
		{511, []int{1, -1, -1, 0}, []answer{{api.Fine, 1, 1}, {api.Sink, 1, 511}, {api.Sink, 1, 511}, {api.Sink, 1, 511}}},
		{512, []int{1, -1, -1}, []answer{{api.Fine, 1, 1}, {api.Fine, 512, 512}, {api.Fine, 512, 512}}},
		{1, []int{1, 0, -1, 0}, []answer{{api.Fine, 1, 1}, {api.Fine, 1, 1}, {api.Sink, 1, 1}, {api.Sink, 1, 1}}},
		{0, []int{0, -1, 1, 0, -1}, []answer{{api.Fine, 0, 0}, {api.Fine, 0, 0}, {api.Sink, 0, 0}, {api.Sink, 0, 0}, {api.Sink, 0, 0}}},
		{2000, []int{513, -1, 511, -1}, []answer{{api.Fine, 513, 513}, {api.Fine, 1024, 1024}, {api.Fine, 1535, 1535}, {api.Fine, 1536, 1536}}},
		{1023, []int{511, 1, 1, -1}, []answer{{api.Fine, 511, 511}, {api.Fine, 512, 512}, {api.Fine, 513, 513}, {api.Sink, 513, 1023}}},
	} {
		s := New(c.room)
		w := NewWriter(s)
		for i, n := range c.steps {
			code := api.Fine
			if n < 0 {
				code = w.Pad()
			} else {
				code = w.Put(numbered(n))
			}
			if got := (answer{code, w.Count(), len(s.Bytes())}); got != c.want[i] {
				t.Errorf("P14.2: room %d, step %d of %v: %v; want %v", c.room, i, c.steps, got, c.want[i])
			}
		}
	}
}

// TestPads pads behind each number of bytes up to three blocks, at all rooms from a byte too few on.
func TestPads(t *testing.T) {
	for n := range 1537 {
		whole := int64(n+511) / 512 * 512
		for _, room := range []int64{int64(n), int64(n) + 1, whole - 1, whole, whole + 1, -1} {
			w := newWriting(newTaking(room))
			for range 2 {
				w.step(t, n)
				w.step(t, -1)
			}
			w.step(t, 0)
		}
	}
}

// TestShortRuns goes over all runs of four of these steps, at rooms where each of them may be the first that doesn't fit.
func TestShortRuns(t *testing.T) {
	steps := []int{-1, 0, 1, 2, 511, 512, 513}
	n := len(steps)
	for _, room := range rooms() {
		for run := range n * n * n * n {
			w := newWriting(newTaking(room))
			for range 4 {
				w.step(t, steps[run%n])
				run /= n
			}
		}
	}
}

// TestFirstBytes: a sink that takes only k bytes has the first k bytes of what one that takes all has.
func TestFirstBytes(t *testing.T) {
	steps := []int{3, -1, 700, 0, -1, 512, -1, 1, 1, -1}
	all := newTaking(-1)
	w := newWriting(all)
	for _, n := range steps {
		w.step(t, n)
	}
	whole := all.sink.Bytes()
	if len(whole) != 2560 || whole[2] == 0 || whole[3] != 0 || whole[511] != 0 || whole[512] == 0 {
		t.Fatalf("P14.2: what one that takes all has: %d bytes", len(whole))
	}
	for k := range len(whole) + 2 {
		s := New(int64(k))
		w := NewWriter(s)
		failed := false
		for _, n := range steps {
			code := api.Fine
			if n < 0 {
				code = w.Pad()
			} else {
				code = w.Put(numbered(n))
			}
			if failed && code != api.Sink {
				t.Fatalf("P14.2: room %d: %v behind Sink", k, code)
			}
			failed = code == api.Sink
		}
		want := min(k, len(whole))
		if !bytes.Equal(s.Bytes(), whole[:want]) || failed != (k < len(whole)) {
			t.Fatalf("P14.3: room %d: %d bytes, Sink %v", k, len(s.Bytes()), failed)
		}
	}
}

// TestTwoWriters: each counts and pads what it put itself, and each is told Sink itself.
func TestTwoWriters(t *testing.T) {
	s := New(1200)
	one, other := NewWriter(s), NewWriter(s)
	if n, code := s.Take(numbered(88)); n != 88 || code != api.Fine || one.Count() != 0 {
		t.Fatalf("P14.1: Take by hand: %d, %v; Count %d", n, code, one.Count())
	}
	if code := one.Put(numbered(500)); code != api.Fine || one.Count() != 500 || other.Count() != 0 {
		t.Fatalf("P14.2: Put of one: %v; Count %d and %d", code, one.Count(), other.Count())
	}
	if code := other.Pad(); code != api.Fine || other.Count() != 0 || len(s.Bytes()) != 588 {
		t.Fatalf("P14.2: Pad of the other, which put nothing: %v; Count %d, %d bytes", code, other.Count(), len(s.Bytes()))
	}
	if code := one.Pad(); code != api.Fine || one.Count() != 512 || len(s.Bytes()) != 600 {
		t.Fatalf("P14.2: Pad of one: %v; Count %d, %d bytes", code, one.Count(), len(s.Bytes()))
	}
	if code := other.Put(numbered(600)); code != api.Fine || other.Count() != 600 {
		t.Fatalf("P14.2: Put of the other: %v; Count %d", code, other.Count())
	}
	if code := one.Put([]byte{1}); code != api.Sink || one.Put(nil) != api.Sink || one.Pad() != api.Sink || one.Count() != 512 {
		t.Fatalf("P14.2: Put of one into a full sink: %v; Count %d", code, one.Count())
	}
	if code := other.Put(nil); code != api.Fine {
		t.Errorf("P14.2: Put of no bytes of the other, which wasn't told Sink: %v", code)
	}
	if code := NewWriter(s).Pad(); code != api.Fine {
		t.Errorf("P14.2: Pad of a new writer into a full sink: %v", code)
	}
	if code := other.Pad(); code != api.Sink || other.Put(nil) != api.Sink || other.Count() != 600 {
		t.Errorf("P14.2: Pad of the other: %v; Count %d", code, other.Count())
	}
}

// TestApart: sinks know nothing of each other.
func TestApart(t *testing.T) {
	one, other := New(4), New(4)
	one.Take([]byte("abcdef"))
	if n, code := other.Take([]byte("xy")); n != 2 || code != api.Fine || string(one.Bytes()) != "abcd" || string(other.Bytes()) != "xy" {
		t.Errorf("P14.1: Take of the other one: %d, %v; Bytes %q and %q", n, code, one.Bytes(), other.Bytes())
	}
}

func TestMadeUp(t *testing.T) {
	r := rand.New(rand.NewSource(14))
	for range 3000 {
		s := newTaking(int64(r.Intn(4000)) - 200)
		writers := []*writing{newWriting(s), newWriting(s)}
		for range 1 + r.Intn(12) {
			w := writers[r.Intn(2)]
			b := make([]byte, r.Intn(1+r.Intn(1500)))
			r.Read(b)
			switch r.Intn(6) {
			case 0:
				s.take(t, b)
			case 1, 2:
				w.pad(t)
			default:
				w.put(t, b)
			}
		}
	}
}

// TestHandedIn changes what was taken, and looks whether the sink did so itself.
func TestHandedIn(t *testing.T) {
	for _, room := range []int64{-1, 0, 5, 700, 2000} {
		s := New(room)
		w := NewWriter(s)
		b := numbered(600)
		s.Take(b)
		if !bytes.Equal(b, numbered(600)) {
			t.Errorf("R4: room %d: Take changed what was handed in", room)
		}
		kept := s.Bytes()
		clear(b)
		if !bytes.Equal(s.Bytes(), kept) {
			t.Errorf("R4: room %d: what was taken changed with what was handed in", room)
		}
		b = numbered(700)
		w.Put(b[:600])
		w.Pad()
		if !bytes.Equal(b, numbered(700)) {
			t.Errorf("R4: room %d: Put changed what was handed in", room)
		}
		kept = s.Bytes()
		clear(b)
		if !bytes.Equal(s.Bytes(), kept) {
			t.Errorf("R4: room %d: what was put changed with what was handed in", room)
		}
	}
}

// TestTold spoils the bytes that were told, and what would stand behind them.
func TestTold(t *testing.T) {
	s := New(-1)
	for n := range 600 {
		s.Take(numbered(n)[:min(n, 3)])
		want := s.Bytes()
		first := slices.Clone(want)
		told := s.Bytes()
		for i := range cap(told) {
			told[:cap(told)][i] = 0xee
		}
		if !bytes.Equal(s.Bytes(), first) {
			t.Fatalf("R4: Bytes behind a change of what they told, %d bytes", len(first))
		}
		s.Take([]byte{7})
		if !bytes.Equal(want, first) || !bytes.Equal(s.Bytes(), append(first, 7)) {
			t.Fatalf("R4: Bytes that were told changed by a Take behind them, %d bytes", len(want))
		}
	}
}

// TestOwnBytes puts a sink's bytes into itself.
func TestOwnBytes(t *testing.T) {
	s := New(20)
	s.Take([]byte("abc"))
	for range 4 {
		s.Take(s.Bytes())
	}
	if string(s.Bytes()) != "abcabcabcabcabcabcab" {
		t.Errorf("P14.3: Bytes %q", s.Bytes())
	}
}

// TestMany puts many bytes one by one, which would be slow if all were laid anew at each Put.
func TestMany(t *testing.T) {
	b := numbered(1 << 22)
	s := New(1<<22 - 5)
	w := NewWriter(s)
	for i := range b {
		want := api.Fine
		if i >= 1<<22-5 {
			want = api.Sink
		}
		if code := w.Put(b[i : i+1]); code != want {
			t.Fatalf("P14.2: Put of byte %d: %v", i, code)
		}
	}
	if w.Count() != 1<<22-5 || !bytes.Equal(s.Bytes(), b[:1<<22-5]) {
		t.Errorf("P14.3: Count %d, %d bytes", w.Count(), len(s.Bytes()))
	}
}
