package step

import (
	"math"
	"sort"

	"oakum/api"
	"oakum/dec"
	"oakum/head"
	"oakum/item"
	"oakum/pax"
	"oakum/text"
)

// answer is all that a decoder should tell behind a block.
type answer struct {
	event  Event
	code   api.Code
	held   int64
	blocks int64
	fault  api.Fault
	stop   api.Fault // if the bytes end behind the block
	rest   api.Fault // if they end with a part of one more
}

// text that is pending, with its header's block.
type textAt struct {
	text string
	at   int
}

// walker goes over all blocks at once, by the chapter's words.
type walker struct {
	blocks     [][]byte
	answers    []answer
	name, link *textAt
	records    map[string]string // nil, if none are pending; with what is empty
	recordsAt  int
	global     map[string]string
}

// walk tells what a decoder should tell behind each block.
func walk(blocks [][]byte) []answer {
	w := &walker{blocks: blocks, global: map[string]string{}}
	w.all()
	return w.answers
}

// all goes from header to header.
func (w *walker) all() {
	for len(w.answers) < len(w.blocks) {
		at := len(w.answers)
		b := w.blocks[at]
		if allNoughts(b) {
			w.end(at)
			return
		}
		r, code := head.Get(b)
		if code != api.Fine {
			w.fail(code, at)
			return
		}
		ok := false
		switch r.Flag {
		case 'x', 'g', 'L', 'K':
			ok = w.extension(at, r)
		default:
			ok = w.item(at, r)
		}
		if !ok {
			return
		}
	}
}

func allNoughts(b []byte) bool {
	for _, c := range b {
		if c != 0 {
			return false
		}
	}
	return true
}

// tell one more block without a fault, behind which a header is due, or else bytes are.
func (w *walker) tell(e Event, due bool, more int) {
	n := int64(len(w.answers)) + 1
	a := answer{event: e, held: w.held() + int64(more), blocks: n}
	a.stop, a.rest = api.Fault{Code: api.Trailer, Block: n}, api.Fault{Code: api.Short, Block: n}
	if due {
		a.stop = a.rest
	}
	w.answers = append(w.answers, a)
}

func (w *walker) held() int64 {
	n := 0
	for _, t := range []*textAt{w.name, w.link} {
		if t != nil {
			n += len(t.text)
		}
	}
	for _, m := range []map[string]string{w.records, w.global} {
		for key, value := range m {
			n += len(key) + len(value)
		}
	}
	return int64(n)
}

// fail at the block that is looked at now, and at all behind it, with the fault of a block.
func (w *walker) fail(code api.Code, block int) {
	f := api.Fault{Code: code, Block: int64(block)}
	n := int64(len(w.answers)) + 1
	for len(w.answers) < len(w.blocks) {
		w.answers = append(w.answers, answer{code: code, blocks: n, fault: f, stop: f, rest: f})
	}
}

func (w *walker) end(at int) {
	w.tell(Event{}, false, 0)
	if at+1 == len(w.blocks) {
		return
	}
	if !allNoughts(w.blocks[at+1]) {
		w.fail(api.Sum, at)
		return
	}
	least := math.MaxInt
	for _, t := range []*textAt{w.name, w.link} {
		if t != nil {
			least = min(least, t.at)
		}
	}
	if w.records != nil {
		least = min(least, w.recordsAt)
	}
	if least < math.MaxInt {
		w.fail(api.Dangling, least)
		return
	}
	w.answers = append(w.answers, answer{event: Event{Kind: End}, blocks: int64(at) + 2})
	for len(w.answers) < len(w.blocks) {
		w.answers = append(w.answers, answer{blocks: int64(at) + 2})
	}
}

// extension at a block; false behind a fault, or the blocks' end.
func (w *walker) extension(at int, r head.Raw) bool {
	size, code := head.Number(w.blocks[at], api.FieldSize)
	if code == api.Fine && size > 65536 {
		code = api.Large
	}
	if code != api.Fine {
		w.fail(code, at)
		return false
	}
	takes := (int(size) + 511) / 512
	for i := range takes {
		// So far i whole blocks of the payload have been read.
		w.tell(Event{}, true, i*512)
		if at+1+i == len(w.blocks) {
			return false
		}
	}
	var bytes []byte
	for i := range takes {
		bytes = append(bytes, w.blocks[at+1+i]...)
	}
	if code := w.hold(at, r.Flag, bytes[:size]); code != api.Fine {
		w.fail(code, at)
		return false
	}
	w.tell(Event{}, false, 0)
	return true
}

func (w *walker) hold(at int, flag byte, bytes []byte) api.Code {
	if flag == 'L' || flag == 'K' {
		s := &textAt{text.Get(bytes), at}
		if s.text == "" {
			return api.Name
		}
		if flag == 'L' {
			w.name = s
		} else {
			w.link = s
		}
		return api.Fine
	}
	pairs, code := pax.Parse(bytes)
	if code != api.Fine {
		return code
	}
	if flag == 'x' {
		w.records, w.recordsAt = map[string]string{}, at
		for _, p := range pairs {
			w.records[p.Key] = p.Value
		}
		return api.Fine
	}
	for _, p := range pairs {
		w.global[p.Key] = p.Value
		if p.Value == "" {
			delete(w.global, p.Key)
		}
	}
	return api.Fine
}

// item whose header is at a block, with its Data; false behind a fault, or the blocks' end.
func (w *walker) item(at int, r head.Raw) bool {
	h, code := w.head(w.blocks[at], r)
	if code != api.Fine {
		w.fail(code, at)
		return false
	}
	w.name, w.link, w.records = nil, nil, nil
	w.tell(Event{Kind: Item, Head: h}, h.Size > 0, 0)
	for left := h.Size; left > 0; left -= 512 {
		at++
		if at == len(w.blocks) {
			return false
		}
		w.tell(Event{Kind: Data, Data: w.blocks[at][:min(left, 512)]}, left > 512, 0)
	}
	return true
}

func (w *walker) head(b []byte, r head.Raw) (api.Head, api.Code) {
	h := api.Head{Kind: item.Kind(r.Flag), Name: r.Name, User: r.User, Group: r.Group}
	for _, field := range []int{api.FieldMode, api.FieldUID, api.FieldGID, api.FieldSize, api.FieldTime, api.FieldMajor, api.FieldMinor} {
		if (field == api.FieldMajor || field == api.FieldMinor) && (r.Mark == head.Old || r.Flag != '3' && r.Flag != '4') {
			continue
		}
		n, code := head.Number(b, field)
		if code != api.Fine {
			return api.Head{}, code
		}
		w.setNumber(&h, field, n)
	}
	if r.Prefix != "" {
		h.Name = r.Prefix + "/" + r.Name
	}
	half := r.Prefix != "" && r.Name == ""
	if w.name != nil {
		h.Name, half = w.name.text, false
	}
	h.Link = r.Link
	if w.link != nil {
		h.Link = w.link.text
	}
	said := w.said()
	w.apply(&h, said)
	if said["path"] != "" {
		half = false
	}
	needsLink := r.Flag == '1' || r.Flag == '2'
	if !needsLink {
		h.Link = ""
	}
	if h.Name == "" || half || needsLink && h.Link == "" {
		return api.Head{}, api.Name
	}
	if h.Kind == api.File && h.Name[len(h.Name)-1] == '/' {
		h.Kind = api.Dir
	}
	if h.Kind == api.Dir && h.Name != "/" && h.Name[len(h.Name)-1] == '/' {
		h.Name = h.Name[:len(h.Name)-1]
	}
	if h.Kind != api.File && h.Size > 0 {
		return api.Head{}, api.Size
	}
	return h, api.Fine
}

func (w *walker) setNumber(h *api.Head, field int, n int64) {
	switch field {
	case api.FieldMode:
		h.Mode = n
	case api.FieldUID:
		h.UID = n
	case api.FieldGID:
		h.GID = n
	case api.FieldSize:
		h.Size = n
	case api.FieldTime:
		h.Time = api.Time{Sec: n}
	case api.FieldMajor:
		h.Major = n
	case api.FieldMinor:
		h.Minor = n
	}
}

// said is what the global overlay says, with the item's records laid over it.
func (w *walker) said() map[string]string {
	said := map[string]string{}
	for _, m := range []map[string]string{w.global, w.records} {
		for key, value := range m {
			said[key] = value
			if value == "" {
				delete(said, key)
			}
		}
	}
	return said
}

func (w *walker) apply(h *api.Head, said map[string]string) {
	var keys []string
	for key := range said {
		keys = append(keys, key)
	}
	sort.Strings(keys)
	for _, key := range keys {
		value := said[key]
		n, _ := dec.Number(value)
		switch key {
		case "path":
			h.Name = value
		case "linkpath":
			h.Link = value
		case "uname":
			h.User = value
		case "gname":
			h.Group = value
		case "uid":
			h.UID = n
		case "gid":
			h.GID = n
		case "size":
			h.Size = n
		case "mtime":
			h.Time, _ = dec.Time(value)
		default:
			h.Extra = append(h.Extra, api.Pair{Key: key, Value: value})
		}
	}
}
