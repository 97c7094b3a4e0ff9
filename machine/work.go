package machine

import (
	"mortmain/api"
	"mortmain/code"
	"mortmain/ephem"
	"mortmain/hold"
	"mortmain/store"
	"mortmain/weak"
)

// work is an operation that is to be done to a heap, ahead of settling.
type work struct {
	x hold.Heap
	o code.Op
}

// deeds are of the plain kinds alone.
func deeds() map[int]func(work) (hold.Heap, api.Errno) {
	return map[int]func(work) (hold.Heap, api.Errno){
		code.New:   work.create,
		code.Copy:  work.duplicate,
		code.Drop:  work.drop,
		code.Load:  work.load,
		code.Store: work.store,
		code.Weak:  work.weaken,
		code.Up:    work.up,
		code.Pair:  work.pair,
		code.Get:   work.get,
		code.Same:  work.leave,
	}
}

func (w work) create() (hold.Heap, api.Errno) {
	s, h, e := store.Make(w.x.S, w.o.B, w.o.C)
	if e != api.OK {
		return w.x, e
	}
	w.x.S = s
	return w.turn(h, api.OK)
}

func (w work) duplicate() (hold.Heap, api.Errno) { return w.turn(said(w.x, w.o.B), api.OK) }

func (w work) drop() (hold.Heap, api.Errno) { return w.turn(0, api.OK) }

func (w work) load() (hold.Heap, api.Errno) {
	h, e := object(w.x, w.o.B)
	if e != api.OK {
		return w.x, e
	}
	return w.turn(store.Field(w.x.S, h, w.o.C))
}

func (w work) store() (hold.Heap, api.Errno) {
	h, e := object(w.x, w.o.A)
	if e != api.OK {
		return w.x, e
	}
	return hold.Field(w.x, h, w.o.B, said(w.x, w.o.C))
}

func (w work) weaken() (hold.Heap, api.Errno) {
	if w.o.B == -1 {
		return hold.Weak(w.x, w.o.A, 0, w.o.C)
	}
	h, e := object(w.x, w.o.B)
	if e != api.OK {
		return w.x, e
	}
	return hold.Weak(w.x, w.o.A, h, w.o.C)
}

func (w work) up() (hold.Heap, api.Errno) { return w.turn(weak.Load(w.x.Cells, w.o.B)) }

func (w work) pair() (hold.Heap, api.Errno) {
	h, e := object(w.x, w.o.A)
	if e != api.OK {
		return w.x, e
	}
	return hold.Pair(w.x, h, said(w.x, w.o.B))
}

func (w work) get() (hold.Heap, api.Errno) {
	h, e := object(w.x, w.o.B)
	if e != api.OK {
		return w.x, e
	}
	return w.turn(ephem.Get(w.x.T, h))
}

func (w work) leave() (hold.Heap, api.Errno) { return w.x, api.OK }

// turn turns the root A to what was asked for, or hands on why there is nothing.
func (w work) turn(h int, e api.Errno) (hold.Heap, api.Errno) {
	if e != api.OK {
		return w.x, e
	}
	return hold.Root(w.x, w.o.A, h)
}

func object(x hold.Heap, r int) (int, api.Errno) {
	h := said(x, r)
	if h == 0 {
		return 0, api.ErrNil
	}
	return h, api.OK
}
