// Package book: what a store has, what of it is held, and which requests were done; how it is read from what is on the disk, and how it is written there.
package book

import "stockroom/api"

// MaxDone: so many requests a book takes.
const MaxDone = 1000000000

// stock: what came into a cell and what went out. What is held and what is free follow from the holds.
type stock struct {
	onHand, committed int
}

// answered: a request that was done, and its reply.
type answered struct {
	request api.Request
	reply   api.Reply
}

// Book is a plain value: a copy of it shares nothing with it.
type Book struct {
	cells      [api.Cells]stock
	holds      [api.MaxHold + 1]api.Hold // by number; a live one has a Count above 0
	clock      int
	done       int
	window     int
	past       [api.MaxWindow]answered // the one done first at first
	remembered int                     // how many of past
}

// New tells the book at the beginning. It remembers as many requests as any book may, until Keep says otherwise.
func New() Book {
	return Book{window: api.MaxWindow}
}

// Keep says how many requests the book remembers from now on, and forgets those that are too many.
func (b *Book) Keep(window int) {
	b.window = window
	b.forget(max(0, b.remembered-window))
}

// Ask says what becomes of a request, and whether it was done. One that was not changes nothing.
func (b *Book) Ask(x Looked) (api.Reply, bool) {
	if reply, known := b.Known(x); known {
		return reply, false
	}
	reply := b.do(x.request)
	b.done++
	b.remember(answered{x.request, reply})
	return reply, true
}

// Known tells the reply to what would not be done, and whether it is that: no request, or one with a remembered ID.
func (b *Book) Known(x Looked) (api.Reply, bool) {
	if !x.good {
		return api.Reply{Code: api.Wrong}, true
	}
	old, ok := b.recall(x.request.ID)
	if !ok {
		return api.Reply{}, false
	}
	if old.request != x.request {
		return api.Reply{Code: api.Conflict}, true
	}
	return old.reply, true
}

// do carries out a request that is not remembered.
func (b *Book) do(r api.Request) api.Reply {
	switch r.Kind {
	case api.Receive:
		return b.receive(r)
	case api.Reserve:
		return b.reserve(r)
	case api.Commit:
		return b.commit(r.Hold)
	case api.Release:
		return b.release(r.Hold)
	}
	return b.tick(r.Time)
}

func (b *Book) receive(r api.Request) api.Reply {
	if b.cells[r.Cell].onHand+r.Count > api.MaxStock {
		return rejected()
	}
	b.cells[r.Cell].onHand += r.Count
	return done(b.Cell(r.Cell).Free)
}

func (b *Book) reserve(r api.Request) api.Reply {
	if b.isLive(r.Hold) || r.Time <= b.clock || r.Count > b.Cell(r.Cell).Free {
		return rejected()
	}
	b.holds[r.Hold] = api.Hold{Cell: r.Cell, Count: r.Count, Time: r.Time}
	return done(b.Cell(r.Cell).Free)
}

func (b *Book) commit(number int) api.Reply {
	if !b.isLive(number) {
		return rejected()
	}
	hold := b.holds[number]
	b.cells[hold.Cell].committed += hold.Count
	return b.release(number)
}

func (b *Book) release(number int) api.Reply {
	if !b.isLive(number) {
		return rejected()
	}
	reply := done(b.holds[number].Count)
	b.holds[number] = api.Hold{}
	return reply
}

func (b *Book) tick(time int) api.Reply {
	if time < b.clock {
		return rejected()
	}
	b.clock = time
	over := 0
	for number, hold := range b.holds {
		if b.isLive(number) && hold.Time <= time {
			b.holds[number] = api.Hold{}
			over++
		}
	}
	return done(over)
}

// recall tells the remembered request with an ID, if there is one.
func (b *Book) recall(id int) (answered, bool) {
	for _, old := range b.past[:b.remembered] {
		if old.request.ID == id {
			return old, true
		}
	}
	return answered{}, false
}

// remember takes in the request that was done last, in place of the one that was done first if there is no room.
func (b *Book) remember(a answered) {
	if b.remembered == b.window {
		b.forget(1)
	}
	b.past[b.remembered] = a
	b.remembered++
}

// forget drops the n remembered requests that were done first.
func (b *Book) forget(n int) {
	b.remembered = copy(b.past[:], b.past[n:b.remembered])
	clear(b.past[b.remembered:])
}

func (b *Book) isLive(number int) bool {
	return b.holds[number].Count > 0
}

// Cell tells what is in a cell.
func (b *Book) Cell(i int) api.Cell {
	held := 0
	for _, hold := range b.holds {
		if hold.Cell == i {
			held += hold.Count
		}
	}
	c := b.cells[i]
	return api.Cell{OnHand: c.onHand, Held: held, Committed: c.committed, Free: c.onHand - held - c.committed}
}

// Hold tells of a hold from 1 to api.MaxHold, and whether it is live.
func (b *Book) Hold(number int) (api.Hold, bool) {
	return b.holds[number], b.isLive(number)
}

// Clock tells the time of the last tick.
func (b *Book) Clock() int {
	return b.clock
}

// Count tells how many requests were done.
func (b *Book) Count() int {
	return b.done
}

func done(count int) api.Reply {
	return api.Reply{Code: api.Done, Count: count}
}

func rejected() api.Reply {
	return api.Reply{Code: api.Rejected}
}
