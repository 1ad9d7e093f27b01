package step

import (
	"slices"
	"strings"

	"oakum/api"
	"oakum/over"
	"oakum/pax"
	"oakum/text"
)

// pending is what waits for the next item's header.
type pending struct {
	name, link longText
	records    records
}

// mark tells whether a thing is pending, and its header's block.
type mark struct {
	there bool
	block int64
}

// longText is a long name, or a long link.
type longText struct {
	mark
	text string
}

// records are those of the next item.
type records struct {
	mark
	pairs []api.Pair
}

// textOf an extension's payload.
func textOf(x extension) (string, api.Code) {
	s := text.Get(x.bytes)
	if s == "" {
		return "", api.Name
	}
	return s, api.Fine
}

func (t *longText) set(x extension) api.Code {
	s, code := textOf(x)
	if code == api.Fine {
		*t = longText{mark{true, x.block}, s}
	}
	return code
}

// or is the long text, if one is pending, else another one.
func (t longText) or(other string) string {
	if t.there {
		return t.text
	}
	return other
}

func (r *records) set(x extension) api.Code {
	l, code := pax.Parse(x.bytes)
	if code == api.Fine {
		*r = records{mark{true, x.block}, lastOfEach(l)}
	}
	return code
}

// lastOfEach key is left of pairs, with the keys in order. One with an empty Value is kept, as it takes a pair of the
// global overlay away, which over.Lay over no overlay would forget.
func lastOfEach(l []api.Pair) []api.Pair {
	slices.Reverse(l)
	slices.SortStableFunc(l, func(a, b api.Pair) int { return strings.Compare(a.Key, b.Key) })
	return slices.CompactFunc(l, func(a, b api.Pair) bool { return a.Key == b.Key })
}

// first is the least block of a thing that is pending, if there is some.
func (p pending) first() (block int64, some bool) {
	for _, m := range []mark{p.name.mark, p.link.mark, p.records.mark} {
		if m.there && (!some || m.block < block) {
			block, some = m.block, true
		}
	}
	return block, some
}

// bytes that are kept.
func (p pending) bytes() int64 {
	return int64(len(p.name.text)) + int64(len(p.link.text)) + over.Bytes(p.records.pairs)
}
