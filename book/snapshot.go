package book

import "stockroom/api"

// Snapshot tells the payload by which Restore tells this book again, but for its window.
func (b *Book) Snapshot() string {
	text := fours(b.done, b.clock)
	for _, c := range b.cells {
		text += fours(c.onHand, c.committed)
	}
	return text + b.holdsText() + b.pastText()
}

// holdsText tells how many holds are live, and each of them by rising number.
func (b *Book) holdsText() string {
	live, text := 0, ""
	for number, hold := range b.holds {
		if b.isLive(number) {
			live++
			text += fours(number, hold.Cell, hold.Count, hold.Time)
		}
	}
	return fours(live) + text
}

// pastText tells how many requests are remembered, and each of them with its reply.
func (b *Book) pastText() string {
	text := fours(b.remembered)
	for _, old := range b.past[:b.remembered] {
		text += requestText(old.request) + fours(old.reply.Code, old.reply.Count)
	}
	return text
}

// Restore tells the book of a snapshot, if the payload is one. It remembers all that the snapshot does.
func Restore(payload string) (Book, bool) {
	r := &reader{left: payload}
	b := New()
	b.done = r.within(0, MaxDone)
	b.clock = r.within(0, api.MaxTime)
	for i := range b.cells {
		b.cells[i] = stock{onHand: r.within(0, api.MaxStock), committed: r.within(0, api.MaxStock)}
	}
	b.readHolds(r)
	b.readPast(r)
	if !r.ended() || b.isOverdrawn() {
		return Book{}, false
	}
	return b, true
}

func (b *Book) readHolds(r *reader) {
	live := r.within(0, api.MaxHold)
	number := 0
	for range live {
		number = r.within(number+1, api.MaxHold)
		b.holds[number] = api.Hold{
			Cell:  r.within(0, api.Cells-1),
			Count: r.within(1, api.MaxCount),
			Time:  r.within(b.clock+1, api.MaxTime),
		}
	}
}

func (b *Book) readPast(r *reader) {
	remembered := r.within(0, min(api.MaxWindow, b.done))
	for range remembered {
		request := r.request()
		reply := api.Reply{Code: r.within(api.Done, api.Rejected), Count: r.within(0, api.MaxStock)}
		_, twice := b.recall(request.ID)
		if !isRequest(request) || twice || reply.Code == api.Rejected && reply.Count != 0 {
			r.bad = true
		}
		b.remember(answered{request, reply})
	}
}

// isOverdrawn tells whether more of some cell is held and gone than came in.
func (b *Book) isOverdrawn() bool {
	for i := range b.cells {
		if b.Cell(i).Free < 0 {
			return true
		}
	}
	return false
}
