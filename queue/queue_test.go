package queue

import (
	"math"
	"math/rand"
	"slices"
	"strconv"
	"testing"

	"oakum/api"
)

// line is what a queue is by the chapter's words: room for so many, and things, the eldest first. A nil queue has room for nothing.
type line struct {
	room   int
	things []int
}

func (l *line) push(x int) bool {
	if len(l.things) >= l.room {
		return false
	}
	l.things = append(l.things, x)
	return true
}

func (l *line) pop() (int, bool) {
	if len(l.things) == 0 {
		return 0, false
	}
	x := l.things[0]
	l.things = l.things[1:]
	return x, true
}

// pair is two queues, what they should be, and the next thing to be put in; a queue and what it should be are nil together.
type pair struct {
	queues [2]*Queue[int]
	lines  [2]*line
	next   int
}

func newPair(rooms [2]int) *pair {
	p := &pair{next: 1}
	for i, room := range rooms {
		p.queues[i], p.lines[i] = New[int](room), &line{room: max(0, room)}
	}
	return p
}

// push puts the next thing into queue i.
func (p *pair) push(t *testing.T, i int) {
	t.Helper()
	got, want := p.queues[i].Push(p.next), p.lines[i].push(p.next)
	if got != want {
		t.Fatalf("P12.1: Push of %d: %v; want %v", p.next, got, want)
	}
	p.next++
}

func (p *pair) pop(t *testing.T, i int) {
	t.Helper()
	x, ok := p.queues[i].Pop()
	if wantX, wantOK := p.lines[i].pop(); x != wantX || ok != wantOK {
		t.Fatalf("P12.1: Pop: %d, %v; want %d, %v", x, ok, wantX, wantOK)
	}
}

func (p *pair) move(t *testing.T, from, to, most int) {
	t.Helper()
	got, want := Move(p.queues[from], p.queues[to], most), 0
	for from != to && want < most && len(p.lines[from].things) > 0 && len(p.lines[to].things) < p.lines[to].room {
		x, _ := p.lines[from].pop()
		p.lines[to].push(x)
		want++
	}
	if got != want {
		t.Fatalf("P12.2: Move of at most %d: %d; want %d", most, got, want)
	}
}

func (p *pair) either(t *testing.T, a, b int) {
	t.Helper()
	x, which := Either(p.queues[a], p.queues[b])
	wantX, wantWhich := 0, 0
	if y, ok := p.lines[a].pop(); ok {
		wantX, wantWhich = y, 1
	} else if y, ok := p.lines[b].pop(); ok {
		wantX, wantWhich = y, 2
	}
	if x != wantX || which != wantWhich {
		t.Fatalf("P12.2: Either: %d, %d; want %d, %d", x, which, wantX, wantWhich)
	}
}

func (p *pair) all(t *testing.T, i int) {
	t.Helper()
	got, want := All(p.queues[i]), p.lines[i].things
	if !slices.Equal(got, want) {
		t.Fatalf("P12.2: All: %v; want %v", got, want)
	}
	p.lines[i].things = nil
}

// held asks both queues how many they have, and for how many they have room.
func (p *pair) held(t *testing.T) {
	t.Helper()
	for i, q := range p.queues {
		l := p.lines[i]
		if q.Len() != len(l.things) || q.Room() != l.room-len(l.things) {
			t.Fatalf("P12.1: Len, Room: %d, %d; want %d, %d", q.Len(), q.Room(), len(l.things), l.room-len(l.things))
		}
	}
}

// steps are what can be done with two queues.
func steps() []func(*testing.T, *pair) {
	return []func(*testing.T, *pair){
		func(t *testing.T, p *pair) { p.push(t, 0) },
		func(t *testing.T, p *pair) { p.push(t, 1) },
		func(t *testing.T, p *pair) { p.pop(t, 0) },
		func(t *testing.T, p *pair) { p.pop(t, 1) },
		func(t *testing.T, p *pair) { p.move(t, 0, 1, 1) },
		func(t *testing.T, p *pair) { p.move(t, 0, 1, math.MaxInt) },
		func(t *testing.T, p *pair) { p.move(t, 1, 0, 2) },
		func(t *testing.T, p *pair) { p.move(t, 0, 0, math.MaxInt) },
		func(t *testing.T, p *pair) { p.either(t, 0, 1) },
		func(t *testing.T, p *pair) { p.either(t, 1, 0) },
		func(t *testing.T, p *pair) { p.either(t, 1, 1) },
		func(t *testing.T, p *pair) { p.all(t, 0) },
	}
}

// full is a queue with just as much room as it has things.
func full[T any](things ...T) *Queue[T] {
	q := New[T](len(things))
	for _, x := range things {
		q.Push(x)
	}
	return q
}

// roomy is a queue with these things and room for so many more.
func roomy[T any](more int, things ...T) *Queue[T] {
	q := New[T](len(things) + more)
	for _, x := range things {
		q.Push(x)
	}
	return q
}

func TestNew(t *testing.T) {
	for _, room := range []int{math.MinInt, math.MinInt32, -4096, -1, 0, 4097, 4098, 8192, 65536, 65537, math.MaxInt32, math.MaxInt} {
		if q := New[int](room); q != nil {
			t.Errorf("P12.1: New(%d) isn't nil", room)
		}
	}
	for _, room := range []int{1, 2, 3, 255, 256, 4095, 4096} {
		q := New[int](room)
		if q == nil {
			t.Fatalf("P12.1: New(%d) is nil", room)
		}
		if x, ok := q.Pop(); q.Len() != 0 || q.Room() != room || x != 0 || ok {
			t.Errorf("P12.1: New(%d): Len %d, Room %d, Pop %d, %v", room, q.Len(), q.Room(), x, ok)
		}
	}
}

// TestFill fills queues to their room, asks for more, and takes all out.
func TestFill(t *testing.T) {
	for _, room := range []int{1, 2, 3, 100, 4095, 4096} {
		q := New[int](room)
		for i := range room {
			if !q.Push(i+1) || q.Len() != i+1 || q.Room() != room-i-1 {
				t.Fatalf("P12.1: Push of %d into room for %d: Len %d, Room %d", i+1, room, q.Len(), q.Room())
			}
		}
		for range 3 {
			if q.Push(-1) || q.Len() != room || q.Room() != 0 {
				t.Fatalf("P12.1: Push into a full queue with room for %d: Len %d, Room %d", room, q.Len(), q.Room())
			}
		}
		for i := range room {
			if x, ok := q.Pop(); x != i+1 || !ok || q.Len() != room-i-1 || q.Room() != i+1 {
				t.Fatalf("P12.3: Pop: %d, %v; want %d; Len %d, Room %d", x, ok, i+1, q.Len(), q.Room())
			}
		}
		for range 3 {
			if x, ok := q.Pop(); x != 0 || ok || q.Len() != 0 || q.Room() != room {
				t.Fatalf("P12.1: Pop of an empty queue: %d, %v", x, ok)
			}
		}
	}
}

func TestExample(t *testing.T) {
	q := New[int](1)
	first, second := q.Push(5), q.Push(6)
	x, ok := q.Pop()
	if !first || second || x != 5 || !ok {
		t.Errorf("P12.1: Push %v, %v; Pop %d, %v", first, second, x, ok)
	}
}

// TestEmpty asks all of a nil queue, and of one that New didn't make, which has neither things nor room either.
func TestEmpty(t *testing.T) {
	for what, q := range map[string]*Queue[string]{"nil": nil, "zero": {}} {
		if q.Push("x") || q.Len() != 0 || q.Room() != 0 {
			t.Errorf("P12.1: %s: Push is true, or Len %d, Room %d", what, q.Len(), q.Room())
		}
		if x, ok := q.Pop(); x != "" || ok {
			t.Errorf("P12.1: %s: Pop: %q, %v", what, x, ok)
		}
		if l := All(q); len(l) != 0 {
			t.Errorf("P12.2: %s: All: %q", what, l)
		}
		other := roomy(1, "a", "b", "c")
		if n, m := Move(q, other, 5), Move(other, q, 5); n != 0 || m != 0 {
			t.Errorf("P12.2: %s: Move: %d from it, %d to it", what, n, m)
		}
		if n := Move(q, q, 5); n != 0 {
			t.Errorf("P12.2: %s: Move to itself: %d", what, n)
		}
		if x, i := Either(q, other); x != "a" || i != 2 {
			t.Errorf("P12.2: %s: Either, it first: %q, %d", what, x, i)
		}
		if x, i := Either(other, q); x != "b" || i != 1 {
			t.Errorf("P12.2: %s: Either, it second: %q, %d", what, x, i)
		}
		if x, i := Either(q, q); x != "" || i != 0 {
			t.Errorf("P12.2: %s: Either of it alone: %q, %d", what, x, i)
		}
		if l := All(other); !slices.Equal(l, []string{"c"}) {
			t.Errorf("P12.2: %s: what is left of the other one: %q", what, l)
		}
	}
}

func TestMove(t *testing.T) {
	for _, c := range []struct {
		what             string
		from, to         *Queue[int]
		most, moved      int
		fromLeft, toLeft []int
	}{
		{"none of the least number", full(1, 2), New[int](4), math.MinInt, 0, []int{1, 2}, nil},
		{"none of a number below 0", full(1, 2), New[int](4), -1, 0, []int{1, 2}, nil},
		{"none of 0", full(1, 2), New[int](4), 0, 0, []int{1, 2}, nil},
		{"one", full(1, 2), New[int](4), 1, 1, []int{2}, []int{1}},
		{"one less than there are", full(1, 2, 3), New[int](4), 2, 2, []int{3}, []int{1, 2}},
		{"as many as there are", full(1, 2), New[int](4), 2, 2, nil, []int{1, 2}},
		{"one more than there are", full(1, 2), New[int](4), 3, 2, nil, []int{1, 2}},
		{"the greatest number", full(1, 2), New[int](4), math.MaxInt, 2, nil, []int{1, 2}},
		{"from an empty one", New[int](3), roomy(1, 9), 1, 0, nil, []int{9}},
		{"to a full one", full(1, 2), full(8, 9), 2, 0, []int{1, 2}, []int{8, 9}},
		{"behind what is there", full(1, 2), roomy(3, 8, 9), 5, 2, nil, []int{8, 9, 1, 2}},
		{"till there is no room", full(1, 2, 3), roomy(2, 9), 5, 2, []int{3}, []int{9, 1, 2}},
		{"just as many as there is room for", full(1, 2), roomy(2, 9), 5, 2, nil, []int{9, 1, 2}},
		{"most below the room", full(1, 2, 3), roomy(2, 9), 1, 1, []int{2, 3}, []int{9, 1}},
		{"from nil", nil, roomy(1, 9), 1, 0, nil, []int{9}},
		{"to nil", full(1, 2), nil, 2, 0, []int{1, 2}, nil},
		{"from nil to nil", nil, nil, 2, 0, nil, nil},
	} {
		if n := Move(c.from, c.to, c.most); n != c.moved {
			t.Errorf("P12.2: %s: Move: %d; want %d", c.what, n, c.moved)
		}
		if got := All(c.from); !slices.Equal(got, c.fromLeft) {
			t.Errorf("P12.2: %s: left behind: %v; want %v", c.what, got, c.fromLeft)
		}
		if got := All(c.to); !slices.Equal(got, c.toLeft) {
			t.Errorf("P12.2: %s: in the other one: %v; want %v", c.what, got, c.toLeft)
		}
	}
}

// TestMoveToItself would go round till most things were moved.
func TestMoveToItself(t *testing.T) {
	for _, q := range []*Queue[int]{New[int](3), roomy(1, 1, 2), full(1, 2, 3)} {
		same := *q
		want := q.Len()
		for _, most := range []int{math.MinInt, -1, 0, 1, 2, 3, 4, math.MaxInt} {
			if n := Move(q, q, most); n != 0 {
				t.Errorf("P12.2: Move of %d to itself: %d", most, n)
			}
			if n := Move(q, &same, most); n != 0 {
				t.Errorf("P12.2: Move of %d to a copy of itself: %d", most, n)
			}
		}
		if q.Len() != want {
			t.Fatalf("P12.2: %d things behind Move to itself; want %d", q.Len(), want)
		}
		for i, x := range All(q) {
			if x != i+1 {
				t.Errorf("P12.3: thing %d is %d behind Move to itself", i, x)
			}
		}
	}
}

func TestEither(t *testing.T) {
	for _, c := range []struct {
		what         string
		a, b         *Queue[int]
		x, i         int
		aLeft, bLeft []int
	}{
		{"both have", full(1, 2), full(8, 9), 1, 1, []int{2}, []int{8, 9}},
		{"the first alone", full(1, 2), New[int](1), 1, 1, []int{2}, nil},
		{"the second alone", New[int](1), full(8, 9), 8, 2, nil, []int{9}},
		{"none of both", New[int](1), New[int](1), 0, 0, nil, nil},
		{"the zero thing of the first", full(0), full(8), 0, 1, nil, []int{8}},
		{"the zero thing of the second", New[int](1), full(0, 9), 0, 2, nil, []int{9}},
		{"the first nil", nil, full(8, 9), 8, 2, nil, []int{9}},
		{"the second nil", full(1, 2), nil, 1, 1, []int{2}, nil},
		{"the first empty, the second nil", New[int](1), nil, 0, 0, nil, nil},
		{"both nil", nil, nil, 0, 0, nil, nil},
	} {
		if x, i := Either(c.a, c.b); x != c.x || i != c.i {
			t.Errorf("P12.2: %s: Either: %d, %d; want %d, %d", c.what, x, i, c.x, c.i)
		}
		if a, b := All(c.a), All(c.b); !slices.Equal(a, c.aLeft) || !slices.Equal(b, c.bLeft) {
			t.Errorf("P12.2: %s: left: %v and %v; want %v and %v", c.what, a, b, c.aLeft, c.bLeft)
		}
	}
	q := full(1, 2)
	if x, i := Either(q, q); x != 1 || i != 1 || q.Len() != 1 {
		t.Errorf("P12.2: Either of one queue twice: %d, %d, and %d are left", x, i, q.Len())
	}
}

// TestEitherByTurns would fail now and then if chance had a say in which queue is taken.
func TestEitherByTurns(t *testing.T) {
	a, b := New[int](200), New[int](200)
	for i := range 200 {
		a.Push(i)
		b.Push(200 + i)
	}
	for want := range 400 {
		x, i := Either(a, b)
		if x != want || i != 1+want/200 {
			t.Fatalf("P12.2: Either: %d, %d; want %d, %d", x, i, want, 1+want/200)
		}
	}
	if x, i := Either(a, b); x != 0 || i != 0 {
		t.Errorf("P12.2: Either, all taken: %d, %d", x, i)
	}
}

func TestAll(t *testing.T) {
	for n := range 6 {
		q := New[int](5)
		want := []int{}
		for i := range n {
			q.Push(10 + i)
			want = append(want, 10+i)
		}
		if got := All(q); !slices.Equal(got, want) {
			t.Errorf("P12.2: All of %d things: %v", n, got)
		}
		if q.Len() != 0 || q.Room() != 5 {
			t.Errorf("P12.2: behind All: Len %d, Room %d", q.Len(), q.Room())
		}
		if got := All(q); len(got) != 0 {
			t.Errorf("P12.2: All, asked again: %v", got)
		}
		if x, ok := q.Pop(); !q.Push(7) || x != 0 || ok {
			t.Errorf("P12.2: behind All: Pop %d, %v, or no Push", x, ok)
		}
	}
	q := New[int](4096)
	for i := range 4096 {
		q.Push(i)
	}
	for i, x := range All(q) {
		if x != i {
			t.Fatalf("P12.3: thing %d of a full queue is %d", i, x)
		}
	}
}

// TestSteps goes over all ways to do four steps behind the pushes that fill the queues half.
func TestSteps(t *testing.T) {
	all := steps()
	for _, rooms := range [][2]int{{1, 1}, {1, 2}, {2, 1}, {2, 3}, {3, 2}, {0, 2}, {2, 0}, {0, 0}} {
		for n := range len(all) * len(all) * len(all) * len(all) {
			p := newPair(rooms)
			for i, room := range rooms {
				for range room / 2 {
					p.push(t, i)
				}
			}
			for range 4 {
				all[n%len(all)](t, p)
				n /= len(all)
				p.held(t)
			}
			p.all(t, 0)
			p.all(t, 1)
		}
	}
}

func TestMadeUp(t *testing.T) {
	r := rand.New(rand.NewSource(12))
	all := steps()
	for range 3000 {
		p := newPair([2]int{r.Intn(12), r.Intn(12)})
		for range 200 {
			switch {
			case r.Intn(2) == 0:
				p.push(t, r.Intn(2))
			case r.Intn(3) == 0:
				p.move(t, r.Intn(2), r.Intn(2), r.Intn(14)-1)
			default:
				all[r.Intn(len(all))](t, p)
			}
			p.held(t)
		}
	}
}

// inAndOut puts three things into room for two and takes them out by each call; what they are is asked by same.
func inAndOut[T any](t *testing.T, what string, things [3]T, same func(a, b T) bool) {
	t.Helper()
	var none T
	q, other := New[T](2), New[T](2)
	if !q.Push(things[0]) || !q.Push(things[1]) || q.Push(things[2]) {
		t.Errorf("P12.1: %s: Push", what)
	}
	if x, ok := q.Pop(); !same(x, things[0]) || !ok {
		t.Errorf("P12.1: %s: Pop: %v", what, ok)
	}
	q.Push(things[2])
	if n := Move(q, other, 1); n != 1 {
		t.Errorf("P12.2: %s: Move: %d", what, n)
	}
	if x, i := Either(other, q); !same(x, things[1]) || i != 1 {
		t.Errorf("P12.2: %s: Either: %d", what, i)
	}
	if l := All(q); len(l) != 1 || !same(l[0], things[2]) {
		t.Errorf("P12.2: %s: All: %d things", what, len(l))
	}
	if x, ok := q.Pop(); !same(x, none) || ok {
		t.Errorf("P12.1: %s: Pop of an empty queue: %v", what, ok)
	}
	if x, i := Either(q, other); !same(x, none) || i != 0 {
		t.Errorf("P12.2: %s: Either of empty queues: %d", what, i)
	}
}

func equal[T comparable](a, b T) bool { return a == b }

// great is of a type that is too large for a channel of its own.
type great [1 << 17]byte

func TestAnyType(t *testing.T) {
	n := 1
	inAndOut(t, "texts", [3]string{"a", "", "c"}, equal)
	inAndOut(t, "numbers", [3]int8{-128, 0, 127}, equal)
	inAndOut(t, "bools", [3]bool{true, false, true}, equal)
	inAndOut(t, "nothings", [3]struct{}{}, equal)
	inAndOut(t, "structs", [3]api.Fault{{Code: api.Sum, Block: 1}, {}, {Block: 3}}, equal)
	inAndOut(t, "pointers", [3]*int{&n, nil, new(int)}, equal)
	inAndOut(t, "interfaces", [3]any{1, nil, "c"}, equal)
	inAndOut(t, "errors", [3]error{strconv.ErrRange, nil, strconv.ErrSyntax}, equal)
	inAndOut(t, "queues", [3]*Queue[int]{New[int](1), nil, New[int](1)}, equal)
	inAndOut(t, "channels", [3]chan int{make(chan int), nil, make(chan int)}, equal)
	inAndOut(t, "great arrays", [3]great{{1}, {}, {1<<17 - 1: 3}}, equal)
	inAndOut(t, "floats", [3]float64{math.NaN(), 0, math.Inf(-1)}, func(a, b float64) bool {
		return math.Float64bits(a) == math.Float64bits(b)
	})
	inAndOut(t, "pieces of bytes", [3][]byte{{1}, nil, {}}, func(a, b []byte) bool {
		return slices.Equal(a, b) && (a == nil) == (b == nil)
	})
	inAndOut(t, "functions", [3]func() int{func() int { return 1 }, nil, func() int { return 3 }}, func(a, b func() int) bool {
		return (a == nil) == (b == nil) && (a == nil || a() == b())
	})
}

// TestOwnMemory changes what was put in, and what was told.
func TestOwnMemory(t *testing.T) {
	q := New[[2]int](3)
	x := [2]int{1, 2}
	q.Push(x)
	x[0] = 9
	q.Push(x)
	first := All(q)
	if first[0] != [2]int{1, 2} || first[1] != [2]int{9, 2} {
		t.Errorf("R4: All, behind a change of what was put in: %v", first)
	}
	q.Push([2]int{3, 4})
	if first[0] != [2]int{1, 2} {
		t.Errorf("R4: what All told, behind a Push: %v", first)
	}
	first[0] = [2]int{-1, -1}
	if second := All(q); len(second) != 1 || second[0] != [2]int{3, 4} {
		t.Errorf("R4: All, asked again: %v", second)
	}
}

// TestApart: queues know nothing of each other.
func TestApart(t *testing.T) {
	a, b := New[int](2), New[int](2)
	a.Push(1)
	b.Push(2)
	if x, ok := b.Pop(); x != 2 || !ok || a.Len() != 1 || b.Len() != 0 {
		t.Errorf("R6: Pop of the second: %d, %v; Len %d and %d", x, ok, a.Len(), b.Len())
	}
	if x, ok := a.Pop(); x != 1 || !ok {
		t.Errorf("R6: Pop of the first: %d, %v", x, ok)
	}
}
