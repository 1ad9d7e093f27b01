package step

import (
	"oakum/api"
	"oakum/head"
	"oakum/item"
	"oakum/over"
)

// headOf an item: what its header b, got as r, and what is pending and global say.
func headOf(b []byte, r head.Raw, p pending, global []api.Pair) (api.Head, api.Code) {
	h, code := numbersOf(b, r)
	if code != api.Fine {
		return api.Head{}, code
	}
	said := over.Lay(global, p.records.pairs)
	h.Kind = item.Kind(r.Flag)
	h.User, h.Group = r.User, r.Group
	h.Name = p.name.or(head.Full(r))
	h.Link = p.link.or(r.Link)
	h, code = over.Apply(h, said)
	if code != api.Fine {
		return api.Head{}, code
	}
	if !linked(h.Kind) {
		h.Link = ""
	}
	if h.Name == "" || half(r, p, said) || linked(h.Kind) && h.Link == "" {
		return api.Head{}, api.Name
	}
	h.Kind, h.Name = item.Told(h.Kind, h.Name)
	if h.Size > 0 && h.Kind != api.File {
		return api.Head{}, api.Size
	}
	return h, api.Fine
}

func linked(kind int) bool { return kind == api.Link || kind == api.Sym }

// half: is the item's Name a Prefix that has no Name behind it?
func half(r head.Raw, p pending, said []api.Pair) bool {
	if r.Prefix == "" || r.Name != "" || p.name.there {
		return false
	}
	_, path := over.Get(said, "path")
	return !path
}

// numbersOf an item's header.
func numbersOf(b []byte, r head.Raw) (api.Head, api.Code) {
	var h api.Head
	type number struct {
		field int
		in    *int64
	}
	l := []number{
		{api.FieldMode, &h.Mode}, {api.FieldUID, &h.UID}, {api.FieldGID, &h.GID},
		{api.FieldSize, &h.Size}, {api.FieldTime, &h.Time.Sec},
	}
	if device(r) {
		l = append(l, number{api.FieldMajor, &h.Major}, number{api.FieldMinor, &h.Minor})
	}
	for _, n := range l {
		var code api.Code
		if *n.in, code = head.Number(b, n.field); code != api.Fine {
			return api.Head{}, code
		}
	}
	return h, api.Fine
}

func device(r head.Raw) bool {
	return r.Mark != head.Old && (r.Flag == '3' || r.Flag == '4')
}
