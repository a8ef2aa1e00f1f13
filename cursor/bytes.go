package cursor

import (
	"math"

	"mailcoach/api"
	"mailcoach/pack"
)

// Write: a cursor into a writer.
func Write(w *pack.Writer, c api.Cursor) {
	w.U64(c.Mark.Ledger)
	w.U64(c.Mark.Entry)
	w.U16(uint16(len(c.Held)))
	for _, h := range c.Held {
		w.U64(h.Ledger)
		w.U16(uint16(len(h.Ranges)))
		for _, r := range h.Ranges {
			w.U64(r.Lo)
			w.U64(r.Hi)
		}
	}
}

// Take: a cursor from a reader.
func Take(r *pack.Reader) api.Cursor {
	c := api.Cursor{Mark: api.Pos{Ledger: r.U64(), Entry: r.U64()}}
	for range r.U16() {
		h := api.Held{Ledger: r.U64()}
		for range r.U16() {
			h.Ranges = append(h.Ranges, api.Range{Lo: r.U64(), Hi: r.U64()})
		}
		c.Held = append(c.Held, h)
	}
	if !Check(c) {
		r.Fail(api.ErrState)
	}
	return c
}

// Encode: a cursor as bytes.
func Encode(c api.Cursor) ([]byte, api.Errno) {
	switch {
	case !Check(c):
		return nil, api.ErrState
	case many(c):
		return nil, api.ErrMany
	}
	w := &pack.Writer{}
	Write(w, c)
	return w.Done(), api.OK
}

// Decode: back.
func Decode(b []byte) (api.Cursor, api.Errno) {
	var c api.Cursor
	// Behind a whole cursor there may be a rest: what the closure kept is no answer then.
	if e := pack.Read(b, func(r *pack.Reader) { c = Take(r) }); e != api.OK {
		return api.Cursor{}, e
	}
	return c, api.OK
}

// many: are there more of something than a U16 tells?
func many(c api.Cursor) bool {
	if len(c.Held) > math.MaxUint16 {
		return true
	}
	for _, h := range c.Held {
		if len(h.Ranges) > math.MaxUint16 {
			return true
		}
	}
	return false
}
