package sum

import (
	"bytes"
	"fmt"
	"math/rand"
	"testing"

	"oakum/api"
)

const (
	first = 148 // the first byte of the field of the sum
	last  = 155 // its last one
)

// header is 512 bytes c.
func header(c byte) []byte { return bytes.Repeat([]byte{c}, 512) }

// with is a header of noughts with other bytes at some places.
func with(places map[int]byte) []byte {
	b := header(0)
	for i, c := range places {
		b[i] = c
	}
	return b
}

// telling is b with the bytes of s in its field.
func telling(b []byte, s string) []byte {
	if len(s) != last-first+1 {
		panic("a field has eight bytes: " + s)
	}
	b = bytes.Clone(b)
	copy(b[first:], s)
	return b
}

// sums are both sums as the chapter's words say them, the field's eight blanks ahead of all the rest.
func sums(b []byte) (plain, signed int64) {
	plain, signed = 8*32, 8*32
	for _, part := range [][]byte{b[:first], b[last+1:]} {
		for _, c := range part {
			plain += int64(c)
			if c >= 128 {
				signed -= 256
			}
			signed += int64(c)
		}
	}
	return plain, signed
}

// someHeaders are headers of all kinds: of one byte throughout, of one byte that isn't 0, and of any bytes.
func someHeaders() [][]byte {
	var all [][]byte
	for c := range 256 {
		all = append(all, header(byte(c)))
	}
	for i := range 512 {
		for _, c := range []byte{1, 127, 128, 255} {
			all = append(all, with(map[int]byte{i: c}))
		}
	}
	dice := rand.New(rand.NewSource(3))
	for range 500 {
		b := make([]byte, 512)
		dice.Read(b)
		all = append(all, b)
	}
	return all
}

// wrongLengths are lists of bytes that are no headers.
func wrongLengths() [][]byte {
	return [][]byte{nil, {}, {0}, make([]byte, 8), make([]byte, 148), make([]byte, 156), make([]byte, 511), make([]byte, 513), make([]byte, 1024)}
}

func TestSum(t *testing.T) {
	for _, c := range []struct {
		name          string
		b             []byte
		plain, signed int64
	}{
		{"512 noughts", header(0), 256, 256},
		{"512 bytes 1", header(1), 760, 760},
		{"512 bytes 127", header(127), 64264, 64264},
		{"512 bytes 128", header(128), 64768, -64256},
		{"512 bytes 255", header(255), 128776, -248},
		{"127 at 0", with(map[int]byte{0: 127}), 383, 383},
		{"128 at 0", with(map[int]byte{0: 128}), 384, 128},
		{"255 at 0", with(map[int]byte{0: 255}), 511, 255},
		{"127 and 128 at the end", with(map[int]byte{510: 127, 511: 128}), 511, 255},
		{"byte 147", with(map[int]byte{147: 200}), 456, 200},
		{"byte 148", with(map[int]byte{148: 200}), 256, 256},
		{"byte 155", with(map[int]byte{155: 200}), 256, 256},
		{"byte 156", with(map[int]byte{156: 200}), 456, 200},
		{"signs that even each other out", with(map[int]byte{1: 128, 2: 128}), 512, 0},
	} {
		plain, signed, code := Sum(c.b)
		if plain != c.plain || signed != c.signed || code != api.Fine {
			t.Errorf("P3.1: Sum of %s: %d, %d, %v; want %d, %d", c.name, plain, signed, code, c.plain, c.signed)
		}
	}
}

func TestSumOfAllKinds(t *testing.T) {
	for k, b := range someHeaders() {
		before := bytes.Clone(b)
		plain, signed, code := Sum(b)
		wantPlain, wantSigned := sums(b)
		if plain != wantPlain || signed != wantSigned || code != api.Fine {
			t.Errorf("P3.1: Sum of header %d: %d, %d, %v; want %d, %d", k, plain, signed, code, wantPlain, wantSigned)
		}
		if !bytes.Equal(b, before) {
			t.Errorf("R4: Sum changed header %d", k)
		}
	}
}

func TestFieldCountsAsBlanks(t *testing.T) {
	dice := rand.New(rand.NewSource(4))
	b := make([]byte, 512)
	dice.Read(b)
	wantPlain, wantSigned := sums(b)
	for range 200 {
		dice.Read(b[first : last+1])
		if plain, signed, _ := Sum(b); plain != wantPlain || signed != wantSigned {
			t.Errorf("P3.1: Sum with the field %q: %d, %d; want %d, %d", b[first:last+1], plain, signed, wantPlain, wantSigned)
		}
	}
}

func TestWrongLengths(t *testing.T) {
	for _, b := range wrongLengths() {
		if plain, signed, code := Sum(b); plain != 0 || signed != 0 || code != api.Arg {
			t.Errorf("P3.1: Sum of %d bytes: %d, %d, %v", len(b), plain, signed, code)
		}
		if code := Check(b); code != api.Arg {
			t.Errorf("P3.1: Check of %d bytes: %v", len(b), code)
		}
		if sealed, code := Seal(b); len(sealed) != 0 || code != api.Arg {
			t.Errorf("P3.1: Seal of %d bytes: %d bytes, %v", len(b), len(sealed), code)
		}
	}
}

func TestArgAheadOfAllElse(t *testing.T) {
	spoilt := telling(header(0), "no field")
	for _, b := range [][]byte{spoilt[:511], append(spoilt, 0)} {
		if code := Check(b); code != api.Arg {
			t.Errorf("R2: Check of %d bytes whose field is none: %v", len(b), code)
		}
	}
}

func TestCheck(t *testing.T) {
	noughts := header(0)
	high := with(map[int]byte{0: 255, 511: 1}) // 512 and, signed, 256
	even := with(map[int]byte{1: 128, 2: 128}) // 512 and, signed, 0
	below := header(255)                       // 128776 and, signed, -248
	for _, c := range []struct {
		name  string
		b     []byte
		field string
		want  api.Code
	}{
		{"noughts", noughts, "000400\x00 ", api.Fine},
		{"noughts", noughts, "00000400", api.Fine},
		{"noughts", noughts, "   400\x00 ", api.Fine},
		{"noughts", noughts, "     400", api.Fine},
		{"noughts", noughts, "400     ", api.Fine},
		{"noughts", noughts, "400\x00\x00\x00\x00\x00", api.Fine},
		{"noughts", noughts, " 400 \x00 \x00", api.Fine},
		{"noughts", noughts, "000401\x00 ", api.Sum},
		{"noughts", noughts, "000377\x00 ", api.Sum},
		{"noughts", noughts, "000000\x00 ", api.Sum},
		{"noughts", noughts, "\x00\x00\x00\x00\x00\x00\x00\x00", api.Sum},
		{"noughts", noughts, "        ", api.Sum},
		{"noughts", noughts, "000256\x00 ", api.Sum},
		{"noughts", noughts, "77777777", api.Sum},
		{"noughts", noughts, "000408\x00 ", api.Numeral},
		{"noughts", noughts, "400\x00400 ", api.Numeral},
		{"noughts", noughts, "400 400 ", api.Numeral},
		{"noughts", noughts, "\x00   400 ", api.Numeral},
		{"noughts", noughts, "0x0400\x00 ", api.Numeral},
		{"noughts", noughts, "-00400\x00 ", api.Numeral},
		{"noughts", noughts, "000400\x00a", api.Numeral},
		{"noughts", noughts, "a00400\x00 ", api.Numeral},
		{"noughts", noughts, "000400\t ", api.Numeral},
		{"noughts", noughts, "\x80\x00\x00\x00\x00\x00\x01\x00", api.Numeral},
		{"high", high, "001000\x00 ", api.Fine},
		{"high", high, "000400\x00 ", api.Fine},
		{"high", high, "   400\x00 ", api.Fine},
		{"high", high, "000500\x00 ", api.Sum},
		{"high", high, "000401\x00 ", api.Sum},
		{"high", high, "001001\x00 ", api.Sum},
		{"even", even, "001000\x00 ", api.Fine},
		{"even", even, "\x00\x00\x00\x00\x00\x00\x00\x00", api.Fine},
		{"even", even, "        ", api.Fine},
		{"even", even, "000001\x00 ", api.Sum},
		{"below", below, "373410\x00 ", api.Fine},
		{"below", below, "000370\x00 ", api.Sum},
		{"below", below, "-00370\x00 ", api.Numeral},
		{"below", below, "\xff\xff\xff\xff\xff\xff\xff\x08", api.Numeral},
	} {
		b := telling(c.b, c.field)
		before := bytes.Clone(b)
		if code := Check(b); code != c.want {
			t.Errorf("P3.1: Check of %s with %q: %v; want %v", c.name, c.field, code, c.want)
		}
		if !bytes.Equal(b, before) {
			t.Errorf("R4: Check of %s with %q changed it", c.name, c.field)
		}
	}
}

func TestSeal(t *testing.T) {
	for _, c := range []struct {
		name  string
		b     []byte
		field string
	}{
		{"512 noughts", header(0), "000400\x00 "},
		{"512 bytes 255", header(255), "373410\x00 "},
		{"512 bytes 127", header(127), "175410\x00 "},
		{"512 bytes 128", header(128), "176400\x00 "},
		{"byte 147", with(map[int]byte{147: 1}), "000401\x00 "},
		{"byte 148", with(map[int]byte{148: 1}), "000400\x00 "},
		{"byte 155", with(map[int]byte{155: 1}), "000400\x00 "},
		{"byte 156", with(map[int]byte{156: 1}), "000401\x00 "},
	} {
		want := telling(c.b, c.field)
		if got, code := Seal(c.b); !bytes.Equal(got, want) || code != api.Fine {
			t.Errorf("P3.1: Seal of %s: %q, %v; want the field %q", c.name, got, code, c.field)
		}
	}
}

func TestWhatIsSealedIsFine(t *testing.T) {
	for k, b := range someHeaders() {
		before := bytes.Clone(b)
		sealed, code := Seal(b)
		plain, _ := sums(b)
		if want := telling(b, fmt.Sprintf("%06o\x00 ", plain)); !bytes.Equal(sealed, want) || code != api.Fine {
			t.Errorf("P3.1: Seal of header %d: %q, %v; want %q", k, sealed, code, want)
			continue
		}
		if code := Check(sealed); code != api.Fine {
			t.Errorf("P3.2: header %d, sealed, is checked %v", k, code)
		}
		if again, _ := Seal(sealed); !bytes.Equal(again, sealed) {
			t.Errorf("P3.2: header %d, sealed again, is another one", k)
		}
		clear(sealed)
		if !bytes.Equal(b, before) {
			t.Errorf("R4: Seal shares the bytes of header %d, or changed them", k)
		}
	}
}

func TestAnotherByteMakesSum(t *testing.T) {
	for _, b := range [][]byte{header(0), header(127), header(128), header(255), with(map[int]byte{0: 128}), with(map[int]byte{0: 255, 511: 128})} {
		sealed, _ := Seal(b)
		stands, _ := sums(sealed)
		for i := range sealed {
			if first <= i && i <= last {
				continue
			}
			for _, c := range []byte{0, 1, 126, 127, 128, 129, 254, 255} {
				was := sealed[i]
				if c == was {
					continue
				}
				sealed[i] = c
				want := api.Sum
				if _, signed := sums(sealed); signed == stands {
					want = api.Fine
				}
				if code := Check(sealed); code != want {
					t.Errorf("P3.2: byte %d, %d instead of %d: %v; want %v", i, c, was, code, want)
				}
				sealed[i] = was
			}
		}
	}
}

// One byte alone never makes up for the 256 that a byte of 128 or more counts less; two can.
func TestAnotherByteWhoseSignedSumStands(t *testing.T) {
	b, _ := Seal(header(0))
	b[0] = 255
	if code := Check(b); code != api.Sum {
		t.Errorf("P3.2: 255 instead of 0, sealed: %v", code)
	}
	b[511] = 1
	if code := Check(b); code != api.Fine {
		t.Errorf("P3.2: a field that tells the signed sum alone: %v", code)
	}
	b[0] = 254
	if code := Check(b); code != api.Sum {
		t.Errorf("P3.2: 254 instead of 255, where the signed sum stood: %v", code)
	}
}

func TestSignedSumOfManyBytes(t *testing.T) {
	for k, b := range someHeaders() {
		_, signed := sums(b)
		if signed < 0 {
			continue
		}
		if code := Check(telling(b, fmt.Sprintf("%06o\x00 ", signed))); code != api.Fine {
			t.Errorf("P3.1: header %d with its signed sum: %v", k, code)
		}
	}
}
